import PyProof.Rows.All
import Wide.All
import OpenK.AllK
import Wide.FinOn
import HandS.ForMost
import HandS.Style
import HandS.IsInst
import HandS.RaiseMore
import HandS.Wide
import HandS.WideBits
import HandS.TupLe
import HandS.TupAny
import HandS.Flow
import HandS.Replace
import KE.LtData
import KE.SortData
import HandS.Dict
import HandS.ExcInit
import HandS.HotCalls
import KE.KExcInit
import KE.KExcIs
import KE.KIsAll
import HandS.ForSpec
import HandS.Small
import HandS.NoneIn
import PySem.Challenge.RW_heldparts_k01_error_classes
set_option Elab.async false
set_option linter.all false
set_option maxRecDepth 100000
set_option maxHeartbeats 16000000
/-! Promises of defs that are kept where no repr is under way, and what repr says of data. -/
namespace Lay
open PySem PySem.Spec PyProof.Rows L2

/-- no repr is under way -/
abbrev Quiet (A : Around) : Prop := A.guards = some []

structure FnG (P : Program) (w : World) (K : PySem.W.Frag)
    (mg : Str → Option Value) (base : Heap) (CX : CXT) (k : Nat)
    (f : Addr) (fd : FuncData) (ps : List Str) (sp : Sp) : Prop where
  len : ∀ zs G R Z, sp zs G R Z → zs.length = ps.length
  run : ∀ (A : Around) (out : List Env) (t : Shared) (G : Hp) (ar : Args) (ws : List Value) (zs : List V)
    (R : VK) (Z : XK), Room k A → Quiet A → Env0 P w K mg base A out t G →
    BindsTo t fd ar (ps.zip ws) → Vals zs ws → sp zs G R Z →
    codeAny (model P w) A (.call (.ref f) ar) (CR CX out P w G t R Z) t

section
variable {P : Program} {w : World} {K : PySem.W.Frag} {mg : Str → Option Value} {base : Heap}
variable {CX : CXT} {k : Nat} {f : Addr} {fd : FuncData} {ps : List Str} {sp : Sp}
theorem ofOk (F : FnOk P w K mg base CX k f fd ps sp) : FnG P w K mg base CX k f fd ps sp where
  len := F.len
  run := by
    intro A out t G ar ws zs R Z hr _ he hb hv hs
    exact F.run A out t G ar ws zs R Z hr he hb hv hs

theorem FnG.mono {j : Nat} (F : FnG P w K mg base CX j f fd ps sp) (h : j ≤ k) : FnG P w K mg base CX k f fd ps sp where
  len := F.len
  run := by
    intro A out t G ar ws zs R Z hr hq he hb hv hs
    exact F.run A out t G ar ws zs R Z (hr.mono h) hq he hb hv hs
end

section
variable {X : Cx} {CX : CXT} {k : Nat} {f : Addr} {fd : FuncData} {ps ks : List Str} {sp : Sp}
variable {dvs : List V} {ds : List Value} {E : XK} {x : Str} {p pos : Pos} {e : Expr} {es : List Expr} {t tk : TA} {kws : List Keyword}
variable {g : List Value → List Value → List Value} {gV : List V → List V → List V}

/-- what a call's result means for the body that called -/
theorem back {pins : List (Addr × Obj)} {σ : L2.St} {H : Hp} {s : Shared} {Q : VK}
    (hx : Passes CX X E) (I : Inv X pins σ H s) : ∀ (r : Result) (s' : Shared), CR CX X.stack X.prog X.w H s Q E r s' →
    (match r with
      | .ok (.ret u) => EP X pins σ Q u s'
      | .ok _ => False
      | .error b => X.xe b s')
  | .error b, s', hq => hx pins σ H s b s' I hq
  | .ok (.ret u), s', hq => I.after hq
  | .ok .next, _, hq => False.elim hq
  | .ok .brk, _, hq => False.elim hq
  | .ok .cont, _, hq => False.elim hq

theorem runG {pins : List (Addr × Obj)} {σ : L2.St} {H : Hp} {s : Shared} {Q : VK} {us : List Value} {vs : List V}
    (F : FnG X.prog X.w X.K X.mg X.base CX k f fd ps sp) (hr : Room k X.A) (hq : Quiet X.A)
    (hb : Binds X.K fd ps ds) (hd : Vals dvs ds) (hx : Passes CX X E)
    (I : Inv X pins σ H s) (r : Vals vs us) (h : sp (vs ++ dvs) H Q E) :
    wpAny (model X.prog X.w) X.A (call (.ref f) us) (EP X pins σ Q) X.xe s := by
  have r2 := Vals.append r hd
  have hl : (us ++ ds).length = ps.length := r2.length.symm.trans (F.len _ _ _ _ h)
  have main := F.run X.A X.stack s H ⟨us, []⟩ (us ++ ds) (vs ++ dvs) Q E hr hq (Inv.env0 I) (hb s us I.kIn hl) r2 h
  refine wpAny_call (codeAny_mono main ?_)
  intro r s' hh
  have z := back hx I r s' hh
  rcases r with b | fl
  · exact z
  · cases fl <;> exact z

theorem pe_callG (F : FnG X.prog X.w X.K X.mg X.base CX k f fd ps sp) (hr : Room k X.A) (hq : Quiet X.A)
    (hg : Gl X x) (hm : X.mg x = some (.ref f)) (hk : PySem.W.keepIn X.K (.ref f) = true)
    (hb : Binds X.K fd ps ds) (hd : Vals dvs ds) (hx : Passes CX X E) (ha : PA X (e :: es) t)
    (hdb : (x == ("__debug__" : Str)) = false := by decide)
    (he : starEach (e :: es) X.env = (false, eval e X.env) :: starEach es X.env := by rfl)
    (hpl : (backTo pos (starEach es X.env)).any (·.1) = false := by rfl) :
    PE X (.Call (.Name x p) (e :: es) [] pos) (tCall sp dvs E t) where
  run := by
    intro pins s σ H Q I h
    apply wpAny_Call_Name_kw
    refine ld_glob I hg hm ?_ hdb
    have args := ha.run pos pins s σ H _ I h
    refine PySem.W.callWith_K (h₀ := X.base) I.ok.mod.kin hk (thn args ?_) he hpl
    rintro us s1 ⟨vs, H1, I1, r, q⟩
    exact ⟨I1.kIn, runG F hr hq hb hd hx I1 r q⟩

theorem pe_callG0 (F : FnG X.prog X.w X.K X.mg X.base CX k f fd ps sp) (hr : Room k X.A) (hq : Quiet X.A)
    (hg : Gl X x) (hm : X.mg x = some (.ref f)) (hk : PySem.W.keepIn X.K (.ref f) = true)
    (hb : Binds X.K fd ps ds) (hd : Vals dvs ds) (hx : Passes CX X E)
    (hdb : (x == ("__debug__" : Str)) = false := by decide) : PE X (.Call (.Name x p) [] [] pos) (tCall sp dvs E tNil) where
  run := by
    intro pins s σ H Q I h
    apply wpAny_Call_Name_kw
    refine ld_glob I hg hm ?_ hdb
    exact PySem.W.callWith_K0 I.kIn hk (runG (us := []) F hr hq hb hd hx I .nil h)
end

section
variable {P : Program} {w : World} {K : PySem.W.Frag} {mg : Str → Option Value} {base : Heap}
/-- a def by its body, where no repr is under way -/
theorem okG {x qual : Str} {st : Stmt} {f : Addr} {fd : FuncData} {N ps : List Str} {k : Nat} {sp : Sp}
    (F : Fun K x qual st f fd) (S : FnScope N ps (defScope st))
    (len : ∀ zs G R Z, sp zs G R Z → zs.length = ps.length)
    (body : ∀ (cv : Value) (A : Around) (out : List Env) (t : Shared) (G : Hp) (zs : List V) (R : VK) (Z : XK),
      Room k (A.deeper (envOfC qual (defScope st) t.heap.objs.size f cv)) → Quiet A → sp zs G R Z →
      ∃ b, PSs (cxOf CX0 P w K mg base N qual (defScope st) f cv A out t G Z).nox (defBody st) b ∧
        b { nx := fun _ G' => R .non G', rt := R } (start N zs) G) :
    FnG P w K mg base CX0 (k + 1) f fd ps sp where
  len := len
  run := by
    obtain ⟨oc, od, kV, dc, pm, an, cv, ct, sl, rfl, lk, hcd⟩ := F.ex
    intro A out t G ar ws zs R Z hr hq e0 hb r hsp
    have old : ∀ b o, base.get? b = some o → t.heap.get? b = some o := fun b o q => (e0.bs b o q).1
    have KX : K.In t.heap := e0.mod.kin.keeps old
    have lim : t.heap.NoLimit := e0.mod.nolimit.keeps old
    obtain ⟨b, hP, hB⟩ := body cv A out t G zs R Z (hr.deeper _) hq hsp
    have kinds : ∀ y ∈ ps.zip ws, (defScope st).names.lookup y.1 = some .local ∨
        ((defScope st).names.lookup y.1 = some .cell ∧ ((cellsFrom (t.heap.objs.size + 1) (defScope st).names []).lookup y.1).isSome = true) := by
      rintro ⟨n, v⟩ hy
      have hn : n ∈ ps := (List.of_mem_zip hy).1
      exact (S.par n hn).imp id fun q => ⟨q, PySem.W.cellsFrom_some _ _ _ (.inl q)⟩
    refine codeAny_call_function hr.depth (KX _ _ lk) rfl S.co S.gen rfl (PySem.W.codeRec_of KX hcd) (hb _ _ _ _ ?_)
    refine wpAny_newFunctionEnv_cells S.kind kinds ?_
    rintro env rfl s1 x
    refine ⟨lim.keeps x.toInCall.keep, codeAny_func ?_⟩
    have I0 := inv_start (CX := CX0) (E := Z) S hr.hd e0 (len _ _ _ _ hsp) r x
    refine wpAny_mono (hP.nox.run [] s1 (start N zs) G _ I0 hB) ?_ fun _ _ hz => hz
    intro fl s' hs
    cases fl with
    | ret u =>
      obtain ⟨v, _, G', J, rv, q⟩ := hs
      exact ⟨v, G', J.os, J.bare, J.base, J.hok, rv, q⟩
    | next =>
      obtain ⟨_, G', J, q⟩ := hs
      exact ⟨V.non, G', J.os, J.bare, J.base, J.hok, rfl, q⟩
    | brk => exact (hs.choose_spec.choose_spec.2 : False).elim
    | cont => exact (hs.choose_spec.choose_spec.2 : False).elim
end

/-! ### repr of data -/
section
variable {X : Cx}
/-- the text of data -/
def rRepr (K : PySem.W.Frag) : List V → Hp → VK → Prop := fun xs H Q =>
  ∃ v d, xs = [v] ∧ Dp K H v d ∧ d.showable = true ∧ d.depth ≤ 60 ∧ d.shown.length ≤ sizeLine ∧ Q (.str d.shown) H
theorem noDict : ∀ (d : PyData) {K : PySem.W.Frag} {H : Hp} {v : V}, Dp K H v d → d.hasDict = false := by
  have all : ∀ n, (∀ d : PyData, sizeOf d < n → ∀ {K : PySem.W.Frag} {H : Hp} {v : V}, Dp K H v d → d.hasDict = false) := by
    intro n
    induction n with
    | zero => intro d h; omega
    | succ n ih =>
      have lst : ∀ (ds : List PyData) {K : PySem.W.Frag} {H : Hp} {vs : List V}, (∀ d ∈ ds, sizeOf d < n) → DpAll K H vs ds → PyData.hasDictAll ds = false := by
        intro ds
        induction ds with
        | nil => intros; simp [PyData.hasDictAll]
        | cons d r ihr =>
          intro K H vs hs h
          cases h with
          | cons h1 h2 =>
            have a := ih d (hs d (List.mem_cons_self ..)) h1
            have b := ihr (fun d' hd' => hs d' (List.mem_cons_of_mem _ hd')) h2
            simp [PyData.hasDictAll, a, b]
      intro d hd K H v h
      cases h with
      | non => simp [PyData.hasDict]
      | bl b => simp [PyData.hasDict]
      | int i => simp [PyData.hasDict]
      | str x => simp [PyData.hasDict]
      | lst hs ha =>
        rename_i ds
        have := lst ds (fun d' hm => by have := List.sizeOf_lt_of_mem hm; simp at hd; omega) ha
        simp [PyData.hasDict, this]
      | tup hs ha =>
        rename_i ds
        have := lst ds (fun d' hm => by have := List.sizeOf_lt_of_mem hm; simp at hd; omega) ha
        simp [PyData.hasDict, this]
  intro d K H v h
  exact all (sizeOf d + 1) d (by omega) h

theorem call_repr_D (hu : X.A.units + 64 < cLine) (hq : Quiet X.A) : CallR X (.builtin "repr") (rRepr X.K) := by
  intro pins s σ H xs us Q I r h
  obtain ⟨v, d, rfl, hd, hs, hdep, hsz, q⟩ := h
  obtain ⟨u, rfl, ru⟩ := vals1 r
  obtain ⟨as, rd⟩ := Dp.reads I d v u hd ru
  have nd := noDict d hd
  cases hd with
  | non =>
    cases ru
    rw [PyData.shown_none] at q
    exact PySem.P.repr_of_none ⟨.str _, H, I.tok _, ⟨_, rfl⟩, q⟩
  | bl b =>
    cases ru
    rw [PyData.shown_bool] at q
    exact PySem.P.repr_of_bool ⟨.str _, H, I.tok _, ⟨_, rfl⟩, q⟩
  | int i =>
    obtain ⟨t, rfl⟩ := ru
    rw [PyData.shown_int] at q
    have hs : i.natAbs.log2 < 1920 := by simpa [PyData.showable] using hs
    exact PySem.P.repr_of_int hs ⟨.str _, H, I.tok _, ⟨_, rfl⟩, q⟩
  | str x =>
    obtain ⟨t, rfl⟩ := ru
    rw [PyData.shown_str] at q hsz
    exact PySem.P.repr_of_str ⟨.str _, H, I.tok _, ⟨_, rfl⟩, q⟩ hsz
  | lst hs' ha =>
    cases ru
    refine repr_of_reads' rd hs (fun z => by rw [nd] at z; cases z) hq (by omega) (fun _ _ z => z) ?_ hsz
    intro h' u tk keep
    exact ⟨.str _, H, I.kept keep, ⟨u, rfl⟩, q⟩
  | tup hs' ha =>
    cases ru
    refine repr_of_reads' rd hs (fun z => by rw [nd] at z; cases z) hq (by omega) (fun _ _ z => z) ?_ hsz
    intro h' u tk keep
    exact ⟨.str _, H, I.kept keep, ⟨u, rfl⟩, q⟩
end

/-! ### a < b of data -/
section
variable {X : Cx}
def rLtD (K : PySem.W.Frag) : R2 := fun x y H Q => ∃ d e, Dp K H x d ∧ Dp K H y e ∧
  PySem.W.alike d e = true ∧ d ≠ .none ∧ min d.depth e.depth ≤ 60 ∧ Q (.bl (PySem.W.dataLt d e)) H
theorem op_ltD (hu : X.A.units + 64 < cLine) : OpR X (compareOp .Lt) (rLtD X.K) := by
  intro pins s σ H x y v u Q I rx ry h
  obtain ⟨d, e, hd, he, al, nn, hm, q⟩ := h
  obtain ⟨as, r1⟩ := Dp.reads I d x v hd rx
  obtain ⟨bs, r2⟩ := Dp.reads I e y u he ry
  have hroom : X.A.units + min d.depth e.depth < cLine := by omega
  exact PySem.W.rcLt_alike d e X.A s v u as bs r1 r2 al nn hroom _ _ _ _ ⟨.bl _, H, I, rfl, q⟩
end

/-! ### the law's own call: nothing of repr stands around it -/
section
variable {P : Program} {w : World} {K : PySem.W.Frag} {mg : Str → Option Value} {k : Nat} {fa : Addr} {fd : FuncData} {x : Str} {sp : Sp}
/-- what the entry sees of the heap: at most the script at `a` is tracked -/
structure Ent (H : Hp) (a : Addr) (t : Shared) (vs : List Value) : Prop where
  ok : HOk P w H t.heap
  at' : ∀ b, H b ≠ none → b = a ∧ ∃ o u, H b = some (.frz o u)
  obj : t.heap.get? a = some { cls := .type "list", data := .seq vs.toArray }

theorem Ent.off {H : Hp} {a : Addr} {t : Shared} {vs : List Value} (E : Ent (P := P) (w := w) H a t vs) {b : Addr} {o : Obj}
    {es : Array DictEntry} {n : Nat} (h : t.heap.get? b = some o) (hd : o.data = .dict es n) : H b = none := by
  rcases Classical.em (H b = none) with z | z
  · exact z
  · have e := (E.at' b z).1
    subst e
    have same := h.symm.trans E.obj
    injection same with same
    rw [same] at hd
    exact nomatch hd

theorem Ent.run {H : Hp} {a : Addr} {t : Shared} {vs : List Value} {mb : Str → Option Value}
    (E : Ent (P := P) (w := w) H a t vs) (KX : K.In t.heap) (hns : t.heap.Ns mainGlobals mg) (hb : t.heap.Ns builtinsNs mb)
    (hbb : ∀ y : Str, y ≠ "__name__" → mb y = bootBuiltins y) (lim : t.heap.NoLimit) (hg : t.gens = #[])
    (hK : H a ≠ none → K.lookup a = none) (hr : Room k callerA)
    (F : ∀ base : Heap, K.In base → base.Ns mainGlobals mg → FnG P w K mg base CX0 k fa fd [x] sp)
    (hbind : ∀ (s : Shared) (u : Value), BindsTo s fd ⟨[u], []⟩ [(x, u)])
    (hsp : sp [.ref a] H (fun v _ => v = .bl true) fun _ _ _ => False) :
    codeAny (model P w) callerA (.call (.ref fa) ⟨[.ref a], []⟩)
      (fun r s' => r = .ok (.ret (.bool true)) ∧ OldK t.heap s'.heap ∧ s'.os = t.os ∧ AllBare s'.gens) t := by
  have take : ∀ {b : Addr} {m : Str → Option Value}, t.heap.Ns b m → (hidT t.heap H).Ns b m := by
    rintro b m ⟨o, es, n, h1, h2, h3⟩
    exact ⟨o, es, n, hidT_get h1 (E.off h1 h2), h2, h3⟩
  have Kb : K.In (hidT t.heap H) := by
    intro b o hbo
    refine hidT_get (KX b o hbo) ?_
    rcases Classical.em (H b = none) with z | z
    · exact z
    · have e := (E.at' b z).1
      subst e
      rw [hK z] at hbo
      cases hbo
  obtain ⟨mc, c1, c2⟩ := lim
  have M : Mod K mg (hidT t.heap H) := { kin := Kb, glob := take hns, blt := ⟨mb, take hb, hbb⟩, nolimit := ⟨mc, take c1, c2⟩ }
  have e0 : Env0 P w K mg (hidT t.heap H) callerA [] t H := by
    refine ⟨rfl, M, fun b o z => of_hidT z, Nat.le_of_eq (hidT_size _ _), trivial, ?_, E.ok, .of_eq hg⟩
    intro b hb
    cases hb
  have main := (F _ Kb (take hns)).run callerA [] t H ⟨[.ref a], []⟩ [.ref a] [.ref a] _ _ hr rfl e0 (hbind t _) (.cons rfl .nil) hsp
  refine codeAny_mono main ?_
  intro r s' h
  rcases r with b | fl
  · exact False.elim h
  · cases fl with
    | next => exact False.elim h
    | brk => exact False.elim h
    | cont => exact False.elim h
    | ret u =>
      obtain ⟨v, H', hos, hbare, hun, hok', rv, hv⟩ := h
      have hv' : v = .bl true := hv
      subst hv'
      have hu : u = Value.bool true := rv
      subst hu
      refine ⟨rfl, OldK.of_keep ?_, hos, hbare⟩
      intro b o hbo
      rcases Classical.em (H b = none) with z | z
      · exact hun.keep b o hbo z (fun y => nomatch y) (fun y => nomatch y)
      · obtain ⟨_, ob, xs, hz⟩ := E.at' b z
        have one := (E.ok b _ hz).1
        have two := (hok' b _ (hun.frzs b ob _ hz)).1
        rw [hbo] at one
        injection one with one
        rw [one]
        exact two

theorem callG {a : Addr} {t : Shared} {vs : List Value} {ns : List Int} {mb : Str → Option Value}
    (KX : K.In t.heap) (hns : t.heap.Ns mainGlobals mg) (hb : t.heap.Ns builtinsNs mb)
    (hbb : ∀ y : Str, y ≠ "__name__" → mb y = bootBuiltins y) (lim : t.heap.NoLimit) (hg : t.gens = #[])
    (ha : t.heap.get? a = some { cls := .type "list", data := .seq vs.toArray }) (hi : IntsAre vs ns) (hl : ns.length ≤ sizeLine)
    (hr : Room k callerA)
    (F : ∀ base : Heap, K.In base → base.Ns mainGlobals mg → FnG P w K mg base CX0 k fa fd [x] sp)
    (hbind : ∀ (s : Shared) (u : Value), BindsTo s fd ⟨[u], []⟩ [(x, u)])
    (hsp : ∀ H : Hp, Only H → SqL K H a (ns.map V.int) → sp [.ref a] H (fun v _ => v = .bl true) fun _ _ _ => False) :
    codeAny (model P w) callerA (.call (.ref fa) ⟨[.ref a], []⟩)
      (fun r s' => r = .ok (.ret (.bool true)) ∧ OldK t.heap s'.heap ∧ s'.os = t.os ∧ AllBare s'.gens) t := by
  have rv := vals_ints hi
  have hlv : vs.length = ns.length := by simpa using rv.length.symm
  rcases Classical.em (K.lookup a = none) with hk | hk
  · let H : Hp := fun b => if b = a then some (.frz { cls := .type "list", data := .seq vs.toArray } (.lst (ns.map V.int))) else none
    have ya : H a = some (.frz { cls := .type "list", data := .seq vs.toArray } (.lst (ns.map V.int))) := if_pos rfl
    have no : ∀ b, b ≠ a → H b = none := fun b z => if_neg z
    refine Ent.run (H := H) (vs := vs) ⟨?_, ?_, ha⟩ KX hns hb hbb lim hg (fun _ => hk) hr F hbind (hsp H ?_ (.inl (.inr ⟨_, ya⟩)))
    · intro b o z
      rcases Classical.em (b = a) with e | e
      · subst e
        rw [ya] at z
        injection z with z
        subst z
        exact ⟨ha, by rw [List.length_map]; exact hl, vs, 0, rv, ha⟩
      · rw [no b e] at z
        cases z
    · intro b z
      rcases Classical.em (b = a) with e | e
      · subst e
        exact ⟨rfl, _, _, ya⟩
      · exact absurd (no b e) z
    · intro b
      rcases Classical.em (b = a) with e | e
      · subst e
        exact .inr ⟨_, _, ya⟩
      · exact .inl (no b e)
  · obtain ⟨o, ho⟩ := Option.ne_none_iff_exists'.mp hk
    have same := (KX a o ho).symm.trans ha
    injection same with same
    subst same
    refine Ent.run (H := fun _ => none) (vs := vs) ⟨fun b o z => (nomatch z), fun b z => absurd rfl z, ha⟩ KX hns hb hbb lim hg (fun z => absurd rfl z) hr F hbind
      (hsp _ (fun _ => .inl rfl) (.inr ⟨_, vs.toArray, _, ho, rfl, rfl, rfl, ?_, by simpa using rv⟩))
    rw [List.size_toArray, hlv]
    exact hl

theorem walkG {l : PySem.W.OpenLaw} {n : Nat} {q : Program} {loose : List Str} {XP : (Str → Option Value) → Heap → Prop}
    {YP : World → Heap → Prop} {d : DefRec} {KK : Params → PySem.W.Frag} {spl : PySem.W.Frag → Sp}
    (hn : l.most = some n) (hn2 : n ≤ sizeLine) (hdf : d.params.defaults = []) (hr : Room k callerA)
    (hY : ∀ (w : World) (h : Heap), YP w h → (KK w.params).In h)
    (F : ∀ (w : World) (mg : Str → Option Value) (fa : Addr) (h : Heap), (KK w.params).In h → h.Ns mainGlobals mg → mg d.name = some (.ref fa) →
      ∃ fd : FuncData, (∀ (s : Shared) (u : Value), BindsTo s fd ⟨[u], []⟩ [(x, u)]) ∧
        ∀ base : Heap, (KK w.params).In base → base.Ns mainGlobals mg → FnG l.prog w (KK w.params) mg base CX0 k fa fd [x] (spl (KK w.params)))
    (hsp : ∀ (K : PySem.W.Frag) (H : Hp) (a : Addr) (ns : List Int), ns.length ≤ n → Only H → SqL K H a (ns.map V.int) →
      spl K [.ref a] H (fun v _ => v = .bl true) fun _ _ _ => False) :
    PySem.W.WalkO q loose XP YP l.row.toRowW d [] (fun f vs => PySem.call f vs) := by
  refine Att.attach_call hn hdf ?_
  intro w s₀ s₁ mg mb fa o pm cd doc a vs ns G Y ho hd hcd hmg hobj hints hlen hg
  have KX := hY w _ Y
  obtain ⟨fd, hbind, hF⟩ := F w mg fa _ KX G.T.g hmg
  exact callG KX G.T.g G.T.b G.T.builtins G.T.nolimit hg hobj hints (Nat.le_trans hlen hn2) hr hF hbind (fun H h1 h2 => hsp _ H a ns hlen h1 h2)
end
end Lay
namespace Lay
open PySem PySem.Spec PyProof.Rows L2
/-- a def of the text stands under its name and keeps a promise -/
def Has (P : Program) (w : World) (K : PySem.W.Frag) (mg : Str → Option Value) (base : Heap)
    (k : Nat) (x : Str) (ps : List Str) (sp : Sp) : Prop :=
  ∃ f fd, FnG P w K mg base CX0 k f fd ps sp ∧ mg x = some (.ref f) ∧
    PySem.W.keepIn K (.ref f) = true ∧ L2.Binds K fd ps [] ∧
    (∀ ks : List Str, ks.Perm ps → ∀ (s : Shared) (ws : List Value), ws.length = ks.length →
      ks = ps → BindsTo s fd ⟨[], ks.zip ws⟩ (ps.zip ws))
section
variable {X : Cx} {k : Nat} {ps : List Str} {sp : Sp} {x : Str} {p pos : Pos} {e : Expr} {es : List Expr} {t : TA}
theorem pe_c (D : Has X.prog X.w X.K X.mg X.base k x ps sp) (hr : Room k X.A) (hq : Quiet X.A) (ha : PA X (e :: es) t)
    (hg : Gl X x := by rfl)
    (hdb : (x == ("__debug__" : Str)) = false := by decide)
    (he : starEach (e :: es) X.env = (false, eval e X.env) :: starEach es X.env := by rfl)
    (hpl : (backTo pos (starEach es X.env)).any (·.1) = false := by rfl) :
    PE X (.Call (.Name x p) (e :: es) [] pos) (tCall sp [] E0 t) := by
  obtain ⟨f, fd, F, gm, kp, b, _⟩ := D
  exact pe_callG F hr hq hg gm kp b .nil pass0 ha hdb he hpl
theorem pe_c0 (D : Has X.prog X.w X.K X.mg X.base k x ps sp) (hr : Room k X.A) (hq : Quiet X.A)
    (hg : Gl X x := by rfl)
    (hdb : (x == ("__debug__" : Str)) = false := by decide) :
    PE X (.Call (.Name x p) [] [] pos) (tCall sp [] E0 tNil) := by
  obtain ⟨f, fd, F, gm, kp, b, _⟩ := D
  exact pe_callG0 F hr hq hg gm kp b .nil pass0 hdb
/-- f(a = .., b = ..): every parameter by its name, in the def's order -/
theorem pe_ck {kws : List Keyword} {tk : TA} (D : Has X.prog X.w X.K X.mg X.base k x ps sp) (hr : Room k X.A) (hq : Quiet X.A) (hkw : PK X kws tk)
    (hks : (backToKw pos (keywordEach kws X.env)).filterMap (·.1) = ps := by rfl)
    (hg : Gl X x := by rfl)
    (hall : (backToKw pos (keywordEach kws X.env)).all (·.1.isSome) = true := by rfl)
    (hdb : (x == ("__debug__" : Str)) = false := by decide)
    (hpl : ((backTo pos (starEach [] X.env)).any (·.1) || (backToKw pos (keywordEach kws X.env)).any (·.1.isNone)) = false := by rfl) :
    PE X (.Call (.Name x p) [] kws pos) (tCall sp [] E0 tk) where
  run := by
    obtain ⟨f, fd, F, gm, kp, _, b⟩ := D
    intro pins s σ H Q I h
    apply wpAny_Call_Name_kw
    refine ld_glob I hg gm ?_ hdb
    refine PySem.W.callWith_KW0 (h₀ := X.base) I.ok.mod.kin kp hall (thn (hkw.run pos pins s σ H _ I h) ?_) hpl
    rintro ws s2 ⟨vs, H2, I2, r, q⟩
    refine ⟨I2.kIn, ?_⟩
    rw [List.append_nil] at q
    have hl : ws.length = ps.length := r.length.symm.trans (F.len _ _ _ _ q)
    rw [hks]
    have main := F.run X.A X.stack s2 H2 ⟨[], ps.zip ws⟩ ws vs Q E0 hr hq (Inv.env0 I2) (b ps (List.Perm.refl _) s2 ws hl rfl) r q
    refine wpAny_call (codeAny_mono main ?_)
    intro r s' hh
    have z := back pass0 I2 r s' hh
    rcases r with b | fl
    · exact z
    · cases fl <;> exact z
end
section
variable {P : Program} {w : World} {K : PySem.W.Frag} {mg : Str → Option Value} {base : Heap}
theorem has {k : Nat} {x : Str} {qual : Str} {st : Stmt} {f : Addr} {fd : FuncData} {ps : List Str} {sp : Sp}
    (F : Fun K x qual st f fd) (gm : mg x = some (.ref f)) (O : FnG P w K mg base CX0 k f fd ps sp)
    (h : ∀ (kV doc pm : Value) (an : Option Addr) (cdv ct : Value) (us : List Value), us.length = ps.length →
      bindArgs (PySem.W.fnOf x qual (defArgs st) (defBody st) (defScope st) .none kV doc pm an cdv ct) ⟨us, []⟩ = pure (ps.zip us))
    (h2 : ∀ (kV doc pm : Value) (an : Option Addr) (cdv ct : Value) (us : List Value), us.length = ps.length →
      bindArgs (PySem.W.fnOf x qual (defArgs st) (defBody st) (defScope st) .none kV doc pm an cdv ct) ⟨[], ps.zip us⟩ = pure (ps.zip us)) :
    Has P w K mg base k x ps sp := by
  refine ⟨f, fd, O, gm, F.kp, F.binds h, ?_⟩
  obtain ⟨oc, od, kV, dc, pm, an, cv, ct, sl, rfl, lk, hcd⟩ := F.ex
  rintro ks _ s ws hl rfl
  exact .of_eq (h2 kV dc pm an cv ct ws hl)
end
section
variable {X : Cx} {x : Str} {pos : Pos}
/-- a constant of the module: a text, a number, an object -/
theorem pe_gS {z : Str} {t : Tok} (hm : X.mg x = some (.str z t)) (hg : Gl X x := by rfl) (hd : (x == ("__debug__" : Str)) = false := by decide) : PE X (.Name x pos) (tC (.str z)) := pe_glob hg hm ⟨t, rfl⟩ hd
theorem pe_gI {z : Int} {t : Tok} (hm : X.mg x = some (.int z t)) (hg : Gl X x := by rfl) (hd : (x == ("__debug__" : Str)) = false := by decide) : PE X (.Name x pos) (tC (.int z)) := pe_glob hg hm ⟨t, rfl⟩ hd
theorem pe_gR {a : Addr} (hm : X.mg x = some (.ref a)) (hg : Gl X x := by rfl) (hd : (x == ("__debug__" : Str)) = false := by decide) : PE X (.Name x pos) (tC (.ref a)) := pe_glob hg hm rfl hd
end
end Lay
namespace Lay
open PySem PySem.Spec PyProof.Rows L2
abbrev St := L2.St
/-! ### loops by invariants -/
section
variable {K : PySem.W.Frag} {J : It} {g : TG} {tb : TS} {tt : TT} {te : TE} {vs : List Nat} {D : Ends} {σ : L2.St} {H : Hp} {wi : TI} {c : TT} {Q : VK}
def Loop (J : It) (g : TG) (tb : TS) (D : Ends) (σ : L2.St) (H : Hp) : Prop := tFor (fun _ G R => R J G) g tb D σ H
theorem tFor_eq : tFor wi g tb D σ H = wi σ H fun J G => Loop J g tb D σ G := rfl
def WLoop (c : TT) (tb : TS) (D : Ends) (σ : L2.St) (H : Hp) : Prop := tWhile c tb D σ H
theorem tWhile_eq : tWhile c tb D σ H = WLoop c tb D σ H := rfl
/-- a comprehension's turns, its new list at L -/
def CLoop (J : It) (g : TG) (tt : TT) (te : TE) (vs : List Nat) (σ : L2.St) (L : Addr) (Q : VK) (H : Hp) : Prop :=
  ∃ W : Nat → Nat → Hp → Prop, (∃ m, W 0 m H) ∧ ∀ i m G, W i m G →
    (J.stop i G ∧ Q (.ref L) G) ∨ (J.go i G ∧ ∃ N : Hp → Prop, (∀ G', N G' → ∃ m', m' < m ∧ W (i + 1) m' G') ∧
      ∀ x G', J.yld i G x G' → g x (wipe σ vs) G' fun σ2 H2 => wipe σ2 vs = wipe σ vs ∧ tt σ2 H2 fun b H3 =>
        if b = true then te σ2 H3 fun y H4 => ∃ acc, H4 L = some (.lst acc) ∧ acc.length < sizeLine ∧ N (upd H4 L (.lst (acc ++ [y]))) else N H3)
theorem tLc_eq : tLc wi g tt te vs σ H Q = wi σ H fun J G => ∀ L, G L = none → CLoop J g tt te vs σ L Q (upd G L (.lst [])) := rfl

theorem Loop.by (n : Nat) (I : Nat → L2.St → Hp → Prop) (h0 : I 0 σ H)
    (hs : ∀ i τ G, i < n → I i τ G → J.go i G ∧ ∀ x G', J.yld i G x G' →
      g x τ G' fun τ2 G2 => tb { D with nx := I (i + 1), ct := I (i + 1), bk := D.nx } τ2 G2)
    (hd : ∀ τ G, I n τ G → J.stop n G ∧ D.nx τ G) : Loop J g tb D σ H := by
  refine ⟨fun i m τ G => m + i = n ∧ I i τ G, ⟨n, rfl, h0⟩, ?_⟩
  rintro i m τ G ⟨hm, hi⟩
  by_cases hlt : i < n
  · obtain ⟨a, b⟩ := hs i τ G hlt hi
    exact .inr ⟨a, I (i + 1), fun _ _ h => ⟨m - 1, by omega, by omega, h⟩, b⟩
  · have e : i = n := by omega
    subst e
    exact .inl (hd τ G hi)
theorem Loop.list {a : Addr} (xs : List V) (I : Nat → L2.St → Hp → Prop) (h0 : I 0 σ H) (hl : ∀ i τ G, I i τ G → SqL K G a xs)
    (hs : ∀ i x τ G, xs[i]? = some x → I i τ G → g x τ G fun τ2 G2 => tb { D with nx := I (i + 1), ct := I (i + 1), bk := D.nx } τ2 G2)
    (hd : ∀ τ G, I xs.length τ G → D.nx τ G) : Loop (Itl K a) g tb D σ H := by
  refine Loop.by xs.length I h0 ?_ fun τ G h => ⟨⟨xs, hl _ _ _ h, Nat.le_refl _⟩, hd τ G h⟩
  intro i τ G hi h
  have q := hl i τ G h
  have hx : xs[i]? = some xs[i] := List.getElem?_eq_getElem hi
  refine ⟨⟨xs, xs[i], q, hx⟩, ?_⟩
  rintro x G' ⟨rfl, hx'⟩
  exact hs i x τ _ (hx' xs q) h
theorem Loop.tup {a : Addr} (xs : List V) (I : Nat → L2.St → Hp → Prop) (h0 : I 0 σ H) (hl : ∀ i τ G, I i τ G → SqT K G a xs)
    (hs : ∀ i x τ G, xs[i]? = some x → I i τ G → g x τ G fun τ2 G2 => tb { D with nx := I (i + 1), ct := I (i + 1), bk := D.nx } τ2 G2)
    (hd : ∀ τ G, I xs.length τ G → D.nx τ G) : Loop (Itt K a) g tb D σ H := by
  refine Loop.by xs.length I h0 ?_ fun τ G h => ⟨⟨xs, hl _ _ _ h, Nat.le_refl _⟩, hd τ G h⟩
  intro i τ G hi h
  have q := hl i τ G h
  have hx : xs[i]? = some xs[i] := List.getElem?_eq_getElem hi
  refine ⟨⟨xs, xs[i], q, hx⟩, ?_⟩
  rintro x G' ⟨rfl, hx'⟩
  exact hs i x τ _ (hx' xs q) h
theorem Loop.range {lo : Int} {n : Nat} (I : Nat → L2.St → Hp → Prop) (h0 : I 0 σ H)
    (hs : ∀ i τ G, i < n → I i τ G → g (.int (lo + i)) τ G fun τ2 G2 => tb { D with nx := I (i + 1), ct := I (i + 1), bk := D.nx } τ2 G2)
    (hd : ∀ τ G, I n τ G → D.nx τ G) : Loop (Itr lo n) g tb D σ H := by
  refine Loop.by n I h0 ?_ fun τ G h => ⟨Nat.le_refl _, hd τ G h⟩
  intro i τ G hi h
  refine ⟨hi, ?_⟩
  rintro x G' ⟨rfl, rfl⟩
  exact hs i τ _ hi h
theorem Loop.str {x : Str} (I : Nat → L2.St → Hp → Prop) (h0 : I 0 σ H)
    (hs : ∀ i k τ G, x.cps.toList[i]? = some k → I i τ G → g (.str ⟨#[k]⟩) τ G fun τ2 G2 => tb { D with nx := I (i + 1), ct := I (i + 1), bk := D.nx } τ2 G2)
    (hd : ∀ τ G, I x.cps.toList.length τ G → D.nx τ G) : Loop (Its x) g tb D σ H := by
  have size : x.cps.size = x.cps.toList.length := by simp
  refine Loop.by x.cps.toList.length I h0 ?_ fun τ G h => ⟨by show x.cps.size ≤ _; omega, hd τ G h⟩
  intro i τ G hi h
  refine ⟨by show i < x.cps.size; omega, ?_⟩
  rintro v G' ⟨rfl, k, hk, rfl⟩
  exact hs i k τ _ (by rw [Array.getElem?_toList]; exact hk) h
/-- for x, y in zip(xs, ys): each pair is a new tuple -/
theorem Loop.zip {a b : Addr} (xs ys : List V) (n : Nat) (hn : n = min xs.length ys.length) (I : Nat → L2.St → Hp → Prop) (h0 : I 0 σ H)
    (hl : ∀ i τ G, I i τ G → SqL K G a xs ∧ SqL K G b ys)
    (hs : ∀ i x y T τ G, xs[i]? = some x → ys[i]? = some y → I i τ G → G T = none → g (.ref T) τ (upd G T (.tup [x, y])) fun τ2 G2 => tb { D with nx := I (i + 1), ct := I (i + 1), bk := D.nx } τ2 G2)
    (hd : ∀ τ G, I n τ G → D.nx τ G) : Loop (Itz K a b) g tb D σ H := by
  refine Loop.by n I h0 ?_ fun τ G h => ⟨⟨xs, ys, (hl _ _ _ h).1, (hl _ _ _ h).2, by omega⟩, hd τ G h⟩
  intro i τ G hi h
  obtain ⟨q1, q2⟩ := hl i τ G h
  have hx : xs[i]? = some (xs[i]'(by omega)) := List.getElem?_eq_getElem _
  have hy : ys[i]? = some (ys[i]'(by omega)) := List.getElem?_eq_getElem _
  refine ⟨⟨xs, ys, _, _, q1, q2, hx, hy⟩, ?_⟩
  rintro v G' ⟨T, x, y, rfl, hT, rfl, hx', hy'⟩
  exact hs i x y T τ G (hx' _ q1) (hy' _ q2) h hT
/-- a while: N is `fun τ' G' => ∃ m', m' < m ∧ I m' τ' G'` as a rule -/
theorem WLoop.by (I : Nat → L2.St → Hp → Prop) (m : Nat) (h0 : I m σ H)
    (hs : ∀ m τ G, I m τ G → c τ G fun b G1 => if b = true then ∃ N : L2.St → Hp → Prop, (∀ τ' G', N τ' G' → ∃ m', m' < m ∧ I m' τ' G') ∧
      tb { D with nx := N, ct := N, bk := D.nx } τ G1 else D.nx τ G1) : WLoop c tb D σ H := ⟨I, ⟨m, h0⟩, hs⟩
theorem CLoop.by {L : Addr} (n : Nat) (I : Nat → List V → Hp → Prop) (h0 : I 0 [] H) (hL : H L = some (.lst []))
    (hs : ∀ i acc G, i < n → I i acc G → G L = some (.lst acc) → J.go i G ∧ ∀ N : Hp → Prop, (∀ a G', I (i + 1) a G' → G' L = some (.lst a) → N G') →
      ∀ x G', J.yld i G x G' → g x (wipe σ vs) G' fun σ2 H2 => wipe σ2 vs = wipe σ vs ∧ tt σ2 H2 fun b H3 =>
        if b = true then te σ2 H3 fun y H4 => ∃ a, H4 L = some (.lst a) ∧ a.length < sizeLine ∧ N (upd H4 L (.lst (a ++ [y]))) else N H3)
    (hd : ∀ acc G, I n acc G → G L = some (.lst acc) → J.stop n G ∧ Q (.ref L) G) : CLoop J g tt te vs σ L Q H := by
  refine ⟨fun i m G => m + i = n ∧ ∃ acc, I i acc G ∧ G L = some (.lst acc), ⟨n, rfl, [], h0, hL⟩, ?_⟩
  rintro i m G ⟨hm, acc, hi, hG⟩
  by_cases hlt : i < n
  · obtain ⟨a, b⟩ := hs i acc G hlt hi hG
    exact .inr ⟨a, fun G' => ∃ acc, I (i + 1) acc G' ∧ G' L = some (.lst acc), fun _ h => ⟨m - 1, by omega, by omega, h⟩,
      b _ fun a G' h1 h2 => ⟨a, h1, h2⟩⟩
  · have e : i = n := by omega
    subst e
    exact .inl (hd acc G hi hG)
theorem CLoop.list {L a : Addr} (xs : List V) (I : Nat → List V → Hp → Prop) (h0 : I 0 [] H) (hL : H L = some (.lst []))
    (hl : ∀ i acc G, I i acc G → G L = some (.lst acc) → SqL K G a xs)
    (hs : ∀ i x acc G, xs[i]? = some x → I i acc G → G L = some (.lst acc) → ∀ N : Hp → Prop, (∀ a G', I (i + 1) a G' → G' L = some (.lst a) → N G') →
      g x (wipe σ vs) G fun σ2 H2 => wipe σ2 vs = wipe σ vs ∧ tt σ2 H2 fun b H3 =>
        if b = true then te σ2 H3 fun y H4 => ∃ a, H4 L = some (.lst a) ∧ a.length < sizeLine ∧ N (upd H4 L (.lst (a ++ [y]))) else N H3)
    (hd : ∀ acc G, I xs.length acc G → G L = some (.lst acc) → Q (.ref L) G) : CLoop (Itl K a) g tt te vs σ L Q H := by
  refine CLoop.by xs.length I h0 hL ?_ fun acc G h1 h2 => ⟨⟨xs, hl _ _ _ h1 h2, Nat.le_refl _⟩, hd acc G h1 h2⟩
  intro i acc G hi h1 h2
  have q := hl i acc G h1 h2
  have hx : xs[i]? = some xs[i] := List.getElem?_eq_getElem hi
  refine ⟨⟨xs, xs[i], q, hx⟩, ?_⟩
  rintro N hN x G' ⟨rfl, hx'⟩
  exact hs i x acc _ (hx' xs q) h1 h2 N hN
theorem CLoop.tup {L a : Addr} (xs : List V) (I : Nat → List V → Hp → Prop) (h0 : I 0 [] H) (hL : H L = some (.lst []))
    (hl : ∀ i acc G, I i acc G → G L = some (.lst acc) → SqT K G a xs)
    (hs : ∀ i x acc G, xs[i]? = some x → I i acc G → G L = some (.lst acc) → ∀ N : Hp → Prop, (∀ a G', I (i + 1) a G' → G' L = some (.lst a) → N G') →
      g x (wipe σ vs) G fun σ2 H2 => wipe σ2 vs = wipe σ vs ∧ tt σ2 H2 fun b H3 =>
        if b = true then te σ2 H3 fun y H4 => ∃ a, H4 L = some (.lst a) ∧ a.length < sizeLine ∧ N (upd H4 L (.lst (a ++ [y]))) else N H3)
    (hd : ∀ acc G, I xs.length acc G → G L = some (.lst acc) → Q (.ref L) G) : CLoop (Itt K a) g tt te vs σ L Q H := by
  refine CLoop.by xs.length I h0 hL ?_ fun acc G h1 h2 => ⟨⟨xs, hl _ _ _ h1 h2, Nat.le_refl _⟩, hd acc G h1 h2⟩
  intro i acc G hi h1 h2
  have q := hl i acc G h1 h2
  have hx : xs[i]? = some xs[i] := List.getElem?_eq_getElem hi
  refine ⟨⟨xs, xs[i], q, hx⟩, ?_⟩
  rintro N hN x G' ⟨rfl, hx'⟩
  exact hs i x acc _ (hx' xs q) h1 h2 N hN
theorem CLoop.range {L : Addr} {lo : Int} {n : Nat} (I : Nat → List V → Hp → Prop) (h0 : I 0 [] H) (hL : H L = some (.lst []))
    (hs : ∀ i acc G, i < n → I i acc G → G L = some (.lst acc) → ∀ N : Hp → Prop, (∀ a G', I (i + 1) a G' → G' L = some (.lst a) → N G') →
      g (.int (lo + i)) (wipe σ vs) G fun σ2 H2 => wipe σ2 vs = wipe σ vs ∧ tt σ2 H2 fun b H3 =>
        if b = true then te σ2 H3 fun y H4 => ∃ a, H4 L = some (.lst a) ∧ a.length < sizeLine ∧ N (upd H4 L (.lst (a ++ [y]))) else N H3)
    (hd : ∀ acc G, I n acc G → G L = some (.lst acc) → Q (.ref L) G) : CLoop (Itr lo n) g tt te vs σ L Q H := by
  refine CLoop.by n I h0 hL ?_ fun acc G h1 h2 => ⟨Nat.le_refl _, hd acc G h1 h2⟩
  intro i acc G hi h1 h2
  refine ⟨hi, ?_⟩
  rintro N hN x G' ⟨rfl, rfl⟩
  exact hs i acc _ hi h1 h2 N hN
theorem CLoop.str {L : Addr} {x : Str} (I : Nat → List V → Hp → Prop) (h0 : I 0 [] H) (hL : H L = some (.lst []))
    (hs : ∀ i k acc G, x.cps.toList[i]? = some k → I i acc G → G L = some (.lst acc) → ∀ N : Hp → Prop, (∀ a G', I (i + 1) a G' → G' L = some (.lst a) → N G') →
      g (.str ⟨#[k]⟩) (wipe σ vs) G fun σ2 H2 => wipe σ2 vs = wipe σ vs ∧ tt σ2 H2 fun b H3 =>
        if b = true then te σ2 H3 fun y H4 => ∃ a, H4 L = some (.lst a) ∧ a.length < sizeLine ∧ N (upd H4 L (.lst (a ++ [y]))) else N H3)
    (hd : ∀ acc G, I x.cps.toList.length acc G → G L = some (.lst acc) → Q (.ref L) G) : CLoop (Its x) g tt te vs σ L Q H := by
  have size : x.cps.size = x.cps.toList.length := by simp
  refine CLoop.by x.cps.toList.length I h0 hL ?_ fun acc G h1 h2 => ⟨by show x.cps.size ≤ _; omega, hd acc G h1 h2⟩
  intro i acc G hi h1 h2
  refine ⟨by show i < x.cps.size; omega, ?_⟩
  rintro N hN v G' ⟨rfl, k, hk, rfl⟩
  exact hs i k acc _ (by rw [Array.getElem?_toList]; exact hk) h1 h2 N hN
end
/-- texts by their signs -/
def tx (l : List Nat) : Str := ⟨l.toArray⟩
theorem tx_app (a b : List Nat) : tx a ++ tx b = tx (a ++ b) := by
  unfold tx
  show (⟨a.toArray ++ b.toArray⟩ : Str) = _
  rw [List.append_toArray]
theorem tx_one (c : Nat) : (⟨#[c]⟩ : Str) = tx [c] := rfl
theorem tx_len (l : List Nat) : (tx l).length = l.length := by simp [tx, Str.length]
theorem tx_list (l : List Nat) : (tx l).cps.toList = l := by simp [tx]
theorem tx_inj {a b : List Nat} (h : tx a = tx b) : a = b := by
  have := congrArg (fun z : Str => z.cps.toList) h
  simpa [tx] using this
theorem same_upd {H : Hp} {p : Addr} {o : HO} (h : H p = none) : Same H (upd H p o) := fun b x e => by
  rw [upd_ne (ne_of_none e h)]
  exact e
theorem sameU {H G : Hp} {p : Addr} {o : HO} (s : Same H G) (h : G p = none) : Same H (L2.upd G p o) := s.trans (same_upd h)
theorem small {n : Nat} (h : n ≤ 1000000) : n ≤ sizeLine := by rw [sizeLine_eq]; omega
theorem cx_K {CX : CXT} {P : Program} {w : World} {K : PySem.W.Frag} {mg : Str → Option Value} {base : Heap} {N : List Str} {qual : Str} {scope : Scope} {f : Addr} {cd : Value} {A : Around} {outer : List Env} {s : Shared} {H : Hp} {E : XK} :
    (cxOf CX P w K mg base N qual scope f cd A outer s H E).K = K := rfl
theorem line (n : Nat) (h : n ≤ 1000000 := by omega) : n ≤ sizeLine := small h
theorem ltline (n : Nat) (h : n ≤ 1000000 := by omega) : n < sizeLine := by rw [sizeLine_eq]; omega
/-! ### data of ints -/
theorem dpInts {K : PySem.W.Frag} {H : Hp} : ∀ ns : List Int, DpAll K H (ns.map V.int) (ns.map PyData.int)
  | [] => .nil
  | n :: r => .cons (.int n) (dpInts r)
theorem canLayInts : ∀ ns : List Int, PyData.canLayAll0 (ns.map PyData.int) = true
  | [] => by simp [PyData.canLayAll0]
  | n :: r => by simp [PyData.canLayAll0, PyData.canLay0, canLayInts r]
theorem depthInts : ∀ ns : List Int, PyData.depthAll (ns.map PyData.int) = 0
  | [] => by simp [PyData.depthAll]
  | n :: r => by simp [PyData.depthAll, PyData.depth, depthInts r]
theorem shapedInts (ns : List Int) : SeqAt.shaped (.list (ns.map PyData.int)) = true := by
  simp [SeqAt.shaped, PyData.canLay0, canLayInts, PyData.depth, depthInts]
theorem eqvNil (ns : List Int) : PyData.eqv (.list (ns.map PyData.int)) (.list []) = ns.isEmpty := by
  cases ns <;> simp [PyData.eqv, PyData.eqvAll]
/-! ### the draws of a law: p the feed, l its cells, n the draws so far -/
def Feed (H : Hp) (p l : Addr) (n : Nat) : Prop := ∃ (ns : List Int) (m : Int),
  H p = some (.lst [.ref l, .int m, .int (n : Nat)]) ∧ H l = some (.lst (ns.map V.int)) ∧ ns.length ≤ 63 ∧ n ≤ 10 ^ 9
/-- all else stays -/
def Keep (p l : Addr) (H H' : Hp) : Prop := ∀ b o, H b = some o → b ≠ p → b ≠ l → H' b = some o
theorem Keep.refl (p l : Addr) (H : Hp) : Keep p l H H := fun _ _ h _ _ => h
theorem Keep.trans {p l : Addr} {H G F : Hp} (a : Keep p l H G) (b : Keep p l G F) : Keep p l H F := fun c o h x y => b c o (a c o h x y) x y
theorem Keep.of {p l : Addr} {H G : Hp} (s : Same H G) : Keep p l H G := fun b o h _ _ => s b o h
theorem Feed.ne {H : Hp} {p l : Addr} {n : Nat} (h : Feed H p l n) : p ≠ l := by
  obtain ⟨ns, m, h1, h2, _⟩ := h
  refine ne_of h1 h2 ?_
  intro e
  injection e with e
  cases ns with
  | nil => cases e
  | cons a r =>
    injection e with e _
    cases e
theorem Feed.same {H G : Hp} {p l : Addr} {n : Nat} (h : Feed H p l n) (s : Same H G) : Feed G p l n := by
  obtain ⟨ns, m, h1, h2, h3⟩ := h
  exact ⟨ns, m, s _ _ h1, s _ _ h2, h3⟩
/-- a new object, or one that is none of both, does not touch a feed -/
theorem Feed.upd {H : Hp} {p l q : Addr} {o : HO} {n : Nat} (h : Feed H p l n) (hp : q ≠ p) (hl : q ≠ l) : Feed (L2.upd H q o) p l n := by
  obtain ⟨ns, m, h1, h2, h3⟩ := h
  exact ⟨ns, m, by rw [upd_ne (Ne.symm hp)]; exact h1, by rw [upd_ne (Ne.symm hl)]; exact h2, h3⟩
def sp_feed (K : PySem.W.Frag) : Sp := fun vs H Q _ => ∃ (a : Addr) (ns : List Int), vs = [.ref a] ∧ SqL K H a (ns.map V.int) ∧ ns.length ≤ 63 ∧
  ∀ p l H', Same H H' → H p = none → H l = none → Feed H' p l 0 → Q (.ref p) H'
def sp_take : Sp := fun vs H Q _ => ∃ (p l : Addr) (n : Nat) (many : Int), vs = [.ref p, .int many] ∧ Feed H p l n ∧ n < 10 ^ 9 ∧ 0 < many ∧ many < 1000000000 ∧
  ∀ (r : Int) H', 0 ≤ r → r < many → Feed H' p l (n + 1) → Keep p l H H' → Q (.int r) H'
theorem cut63 {xs : List V} (h : xs.length ≤ 63) : cutV xs none (some 63) = xs := by
  unfold cutV
  rw [HT.sIx_none, show HT.sIx xs.length xs.length (some 63) = min 63 xs.length from HT.sIx_nat xs.length xs.length 63]
  rw [List.drop_zero, List.take_of_length_le (by omega)]
theorem int_at {ns : List Int} {i : Nat} {x : V} (h : (ns.map V.int)[i]? = some x) : ∃ y, x = .int y := by
  rw [List.getElem?_map] at h
  cases e : ns[i]? with
  | none => rw [e] at h; cases h
  | some y => rw [e] at h; exact ⟨y, (Option.some.inj h).symm⟩
/-- the new object at p is written again -/
theorem sameU' {H G : Hp} {p : Addr} {o : HO} (s : Same H G) (h : H p = none) : Same H (L2.upd G p o) := fun b x e => by
  rw [upd_ne (ne_of_none e h)]
  exact s b x e
theorem cat_nil {H : Hp} {p : Addr} {xs : List V} (h : H p = some (.lst xs)) : H p = some (.lst (xs ++ [])) := by rw [List.append_nil]; exact h
end Lay
/-! Data of any depth with dicts in it: how it stands on the heap, and its repr. -/
namespace Lay
open PySem PySem.Spec PyProof.Rows L2
def keyD : Key → PyData
  | .inl i => .int i
  | .inr x => .str x
mutual
inductive Dx (K : PySem.W.Frag) (H : Hp) : V → PyData → Prop
  | non : Dx K H .non .none
  | bl (b : Bool) : Dx K H (.bl b) (.bool b)
  | int (i : Int) : Dx K H (.int i) (.int i)
  | str (x : Str) : Dx K H (.str x) (.str x)
  | lst {a : Addr} {xs : List V} {ds : List PyData} : SqL K H a xs → DxAll K H xs ds → Dx K H (.ref a) (.list ds)
  | tup {a : Addr} {xs : List V} {ds : List PyData} : SqT K H a xs → DxAll K H xs ds → Dx K H (.ref a) (.tuple ds)
  | dct {a : Addr} {es : List (Key × V)} {ds : List (PyData × PyData)} : H a = some (.dK es) →
      es.map (fun e => keyD e.1) = ds.map (·.1) → DxAll K H (es.map (·.2)) (ds.map (·.2)) → Dx K H (.ref a) (.dict ds)
inductive DxAll (K : PySem.W.Frag) (H : Hp) : List V → List PyData → Prop
  | nil : DxAll K H [] []
  | cons {v : V} {vs : List V} {d : PyData} {ds : List PyData} : Dx K H v d → DxAll K H vs ds → DxAll K H (v :: vs) (d :: ds)
end
section
variable {X : Cx} {pins : List (Addr × Obj)} {σ : L2.St} {H : Hp} {s : Shared}
/-- the built-in repr, called where no repr is under way -/
def Top (P : Program) (w : World) (h : Heap) (d : PyData) (u : Value) : Prop :=
  ∀ (A : Around) (E : Value → Shared → Prop) (t : Shared) (Q : Value → Shared → Prop), Quiet A → A.units + (d.depth + 1) < cLine →
    (∀ b o, h.get? b = some o → t.heap.get? b = some o) →
    (∀ h' z tk, (∀ b o, t.heap.get? b = some o → h'.get? b = some o) → Q (.str d.shown z) { t with heap := h', toks := tk }) →
    wpAny (model P w) A (call (.builtin "repr") [u]) Q E t
theorem Top.slot {P : Program} {w : World} {h : Heap} {d : PyData} {a : Addr} {T idr : String} {o : Obj} (ho : h.get? a = some o) (hc : o.cls = .type T) (S : SlotG T "__repr__" idr)
    (c : ∀ (A : Around) (E : Value → Shared → Prop) (t : Shared) (Q : Value → Shared → Prop), Quiet A → A.units + d.depth < cLine →
      (∀ b o, h.get? b = some o → t.heap.get? b = some o) →
      (∀ h' z tk, (∀ b o, t.heap.get? b = some o → h'.get? b = some o) → Q (.str d.shown z) { t with heap := h', toks := tk }) →
      wpAny (model P w) A (call (.builtin idr) [.ref a]) Q E t) : Top P w h d (.ref a) := by
  intro A E t Q hq hu hk hQ
  refine call_repr_slot (by omega) ⟨o, hk _ _ ho, hc⟩ S (c A.in1 E t _ hq (by show A.units + 1 + d.depth < cLine; omega) hk ?_)
  intro h' z tk k
  exact ⟨_, _, rfl, hQ h' z tk k⟩
def Sh (P : Program) (w : World) (h : Heap) (d : PyData) (u : Value) : Prop := ∃ as, Reads h u d as ∧
  (d.showable = true → d.shown.length ≤ sizeLine → (∃ bs, ReadAtMost h d.depth bs ∧ ReprK P w bs h d.depth u d.shown) ∧ Top P w h d u)
def ShAll (P : Program) (w : World) (h : Heap) (ds : List PyData) (us : List Value) : Prop := ∃ as, ReadsAll h us ds as ∧
  (PyData.showableAll ds = true → (∀ t ∈ PyData.shownAll ds, t.length ≤ sizeLine) →
    ∃ bs, ReadAtMost h (PyData.depthAll ds) bs ∧ ReprAllK P w bs h (PyData.depthAll ds) us (PyData.shownAll ds))
theorem ShAll.cons {P : Program} {w : World} {h : Heap} {d : PyData} {ds : List PyData} {u : Value} {us : List Value}
    (a : Sh P w h d u) (b : ShAll P w h ds us) : ShAll P w h (d :: ds) (u :: us) := by
  obtain ⟨as, r1, f⟩ := a
  obtain ⟨bs, r2, g⟩ := b
  refine ⟨_, .cons r1 r2, ?_⟩
  intro hs hz
  simp only [PyData.showableAll, Bool.and_eq_true] at hs
  simp only [PyData.shownAll, List.mem_cons, forall_eq_or_imp] at hz
  obtain ⟨⟨b1, m1, k1⟩, _⟩ := f hs.1 hz.1
  obtain ⟨b2, m2, k2⟩ := g hs.2 hz.2
  refine ⟨b1 ++ b2, ?_, ?_⟩
  · simp only [PyData.depthAll]
    exact (m1.mono (Nat.le_max_left _ _)).append (m2.mono (Nat.le_max_right _ _))
  · simp only [PyData.depthAll, PyData.shownAll]
    exact .cons ((k1.more fun _ q => List.mem_append_left _ q).level_le (Nat.le_max_left _ _))
      (k2.more_le (fun _ q => List.mem_append_right _ q) (Nat.le_max_right _ _))
theorem ShAll.nil {P : Program} {w : World} {h : Heap} : ShAll P w h [] [] :=
  ⟨_, .nil, fun _ _ => ⟨[], (fun _ q => nomatch q), by simp only [PyData.shownAll]; exact .nil⟩⟩
theorem sh_key {P : Program} {w : World} {h : Heap} {k : Key} {u : Value} (e : keyIs k u = true) : Sh P w h (keyD k) u := by
  rcases keyIs_shape e with ⟨i, t, rfl, rfl⟩ | ⟨x, t, rfl, rfl⟩
  · refine ⟨_, .int i t, fun hs _ => ⟨⟨[], (fun _ q => nomatch q), ?_⟩, ?_⟩⟩
    · have hs : i.natAbs.log2 < 1920 := by simpa [keyD, PyData.showable] using hs
      simp only [keyD, PyData.shown]
      exact .of_is (ReprIs.int t hs) _ _ _
    · have hs : i.natAbs.log2 < 1920 := by simpa [keyD, PyData.showable] using hs
      intro A E t' Q _ _ _ hQ
      simp only [keyD, PyData.shown] at hQ
      exact PySem.P.repr_of_int hs (hQ t'.heap _ _ fun _ _ z => z)
  · refine ⟨_, .str x t, fun _ hz => ⟨⟨[], (fun _ q => nomatch q), ?_⟩, ?_⟩⟩
    · simp only [keyD, PyData.shown] at hz ⊢
      exact .of_is (ReprIs.str x t hz) _ _ _
    · intro A E t' Q _ _ _ hQ
      simp only [keyD, PyData.shown] at hQ hz
      exact PySem.P.repr_of_str (hQ t'.heap _ _ fun _ _ z => z) hz
/-- the entries of a dict on the heap: their keys, their values -/
theorem sh_pairs {P : Program} {w : World} {h : Heap} : ∀ {es : List DictEntry} {vs : List (Key × Value)} {kvs : List (Key × V)},
    Pairs (mixKind P w) es vs → KV kvs vs → ShAll P w h (kvs.map fun e => keyD e.1) (es.map (·.key)) ∧ Vals (kvs.map (·.2)) (es.map (·.val))
  | _, _, _, .nil, .nil => ⟨.nil, .nil⟩
  | _, _, _, .cons h1 h2 t, .cons ⟨e1, e2⟩ r => by
    obtain ⟨a, b⟩ := sh_pairs t r
    refine ⟨.cons (sh_key (by rw [e1]; exact h1)) a, .cons ?_ b⟩
    show L2.RelV _ _
    rw [← h2] at e2
    exact e2

theorem showable_size {ds : List (PyData × PyData)} : sizeOf (ds.map (·.2)) ≤ sizeOf ds := by
  induction ds with
  | nil => simp
  | cons p r ih =>
    obtain ⟨a, b⟩ := p
    simp only [List.map_cons, List.cons.sizeOf_spec, Prod.mk.sizeOf_spec]
    omega

theorem sh_of (I : Inv X pins σ H s) : ∀ n, (∀ d : PyData, sizeOf d < n → ∀ v u, Dx X.K H v d → RelV v u → Sh X.prog X.w s.heap d u) ∧
    (∀ ds : List PyData, sizeOf ds < n → ∀ vs us, DxAll X.K H vs ds → Vals vs us → ShAll X.prog X.w s.heap ds us) := by
  intro n
  induction n with
  | zero => exact ⟨fun d h => by omega, fun d h => by omega⟩
  | succ n ih =>
    obtain ⟨one, all⟩ := ih
    refine ⟨?_, ?_⟩
    · intro d hn v u hd ru
      cases hd with
      | non =>
        cases ru
        refine ⟨_, .none, fun _ _ => ⟨⟨[], (fun _ q => nomatch q), by simp only [PyData.shown]; exact .of_is ReprIs.none _ _ _⟩, ?_⟩⟩
        intro A E t' Q _ _ _ hQ
        rw [PyData.shown_none] at hQ
        exact PySem.P.repr_of_none (hQ t'.heap _ _ fun _ _ z => z)
      | bl b =>
        cases ru
        refine ⟨_, .bool b, fun _ _ => ⟨⟨[], (fun _ q => nomatch q), by simp only [PyData.shown]; exact .of_is (ReprIs.bool b) _ _ _⟩, ?_⟩⟩
        intro A E t' Q _ _ _ hQ
        rw [PyData.shown_bool] at hQ
        exact PySem.P.repr_of_bool (hQ t'.heap _ _ fun _ _ z => z)
      | int i =>
        obtain ⟨t, rfl⟩ := ru
        exact sh_key (k := .inl i) (keyIs_int i t)
      | str x =>
        obtain ⟨t, rfl⟩ := ru
        exact sh_key (k := .inr x) (keyIs_str x t)
      | @lst a xs ds hs ha =>
        cases ru
        obtain ⟨its, rv, ⟨o, m, ho, hc, _, hdt⟩, _⟩ := I.list hs
        obtain ⟨as, hr, f⟩ := all ds (by simp only [PyData.list.sizeOf_spec] at hn; omega) _ _ ha rv
        have r : Reads s.heap (.ref a) (.list ds) _ := .list ho hc hdt hr
        refine ⟨_, r, fun sh hz => ?_⟩
        have hz' : (listText (PyData.shownAll ds)).length ≤ sizeLine := by simpa only [PyData.shown] using hz
        obtain ⟨bs, hb, hk⟩ := f (by simpa [PyData.showable] using sh) fun t ht => Nat.le_trans (listText_mem_le ht) hz'
        have hna : a ∉ bs := not_mem_of_deeper r (by simp only [PyData.depth]; omega) hb
        refine ⟨⟨a :: bs, ReadAtMost.cons r (by simp only [PyData.depth]; omega) hb, ?_⟩, Top.slot ho hc F.slot_list_repr.toG ?_⟩
        · simp only [PyData.depth, PyData.shown]
          cases its with
          | nil =>
            cases hr
            simp only [PyData.shownAll, listText_nil]
            exact ReprK.listEmpty ho hc hdt
          | cons x l => exact ReprK.list ho hc hdt hna (by simpa using hk.length_eq) fun i y e => hk.item i y (by simpa using e)
        · intro A E t Q hq hu keep hQ
          simp only [PyData.depth] at hu
          simp only [PyData.shown] at hQ
          cases its with
          | nil =>
            cases hr
            simp only [PyData.shownAll, listText_nil] at hQ
            exact call_list_repr_empty ⟨o, keep _ _ ho, hc⟩ (keep _ _ ho) hdt (hQ t.heap _ _ fun _ _ z => z)
          | cons x l =>
            exact call_list_reprK ho hc hdt hna (by simpa using hk.length_eq) (fun i y e => hk.item i y (by simpa using e)) hq (fun b _ => Clear.nil b) hu keep hQ hz'
      | @tup a xs ds hs ha =>
        cases ru
        obtain ⟨its, rv, ⟨o, ho, hc, m, hdt⟩, _⟩ := I.tuple hs
        obtain ⟨as, hr, f⟩ := all ds (by simp only [PyData.tuple.sizeOf_spec] at hn; omega) _ _ ha rv
        have r : Reads s.heap (.ref a) (.tuple ds) _ := .tuple ho hc hdt hr
        refine ⟨_, r, fun sh hz => ?_⟩
        have hz' : (tupleText (PyData.shownAll ds)).length ≤ sizeLine := by simpa only [PyData.shown] using hz
        obtain ⟨bs, hb, hk⟩ := f (by simpa [PyData.showable] using sh) fun t ht => Nat.le_trans (tupleText_mem_le ht) hz'
        have hna : a ∉ bs := not_mem_of_deeper r (by simp only [PyData.depth]; omega) hb
        refine ⟨⟨a :: bs, ReadAtMost.cons r (by simp only [PyData.depth]; omega) hb, ?_⟩, Top.slot ho hc F.slot_tuple_repr ?_⟩
        · simp only [PyData.depth, PyData.shown]
          exact ReprK.tuple ho hc hdt hna (by simpa using hk)
        · intro A E t Q hq hu keep hQ
          simp only [PyData.depth] at hu
          simp only [PyData.shown] at hQ
          exact call_tuple_reprK ho hc hdt hna (by simpa using hk) hq (fun b _ => Clear.nil b) hu keep hQ hz'
      | @dct a es ds ha hk hv =>
        cases ru
        obtain ⟨z, hsys, vs, rkv, o, en, ep, ho, hx, hdt, _, hp, _⟩ := dk_of I.hok ha
        obtain ⟨keys, vals⟩ := sh_pairs (P := X.prog) (w := X.w) (h := s.heap) hp rkv
        rw [hk] at keys
        obtain ⟨as, r1, f1⟩ := keys
        have sz := showable_size (ds := ds)
        obtain ⟨bs, r2, f2⟩ := all (ds.map (·.2)) (by simp only [PyData.dict.sizeOf_spec] at hn; omega) _ _ hv vals
        have r : Reads s.heap (.ref a) (.dict ds) _ := .dict ho hx.1 hdt r1 r2
        refine ⟨_, r, fun sh hz => ?_⟩
        have hz' : (dictText (PyData.shownKv ds)).length ≤ sizeLine := by simpa only [PyData.shown] using hz
        obtain ⟨s1, s2⟩ := PyData.showableKv_split ds (by simpa [PyData.showable] using sh)
        obtain ⟨b1, m1, k1⟩ := f1 s1 fun t ht => by
          obtain ⟨p, hp, hl⟩ := PyData.shownKv_key_le ds t ht
          exact Nat.le_trans hl (Nat.le_trans (dictText_mem_le hp) hz')
        obtain ⟨b2, m2, k2⟩ := f2 s2 fun t ht => by
          obtain ⟨p, hp, hl⟩ := PyData.shownKv_val_le ds t ht
          exact Nat.le_trans hl (Nat.le_trans (dictText_mem_le hp) hz')
        have hb : ReadAtMost s.heap (PyData.depthKv ds) (b1 ++ b2) := (m1.mono (PyData.depthAll_keys_le ds)).append (m2.mono (PyData.depthAll_vals_le ds))
        have hna : a ∉ b1 ++ b2 := not_mem_of_deeper r (by simp only [PyData.depth]; omega) hb
        have both := ReprEntriesK.of_two en.toList _ _ (k1.more_le (fun _ q => List.mem_append_left b2 q) (PyData.depthAll_keys_le ds))
          (k2.more_le (fun _ q => List.mem_append_right b1 q) (PyData.depthAll_vals_le ds))
        refine ⟨⟨a :: (b1 ++ b2), ReadAtMost.cons r (by simp only [PyData.depth]; omega) hb, ?_⟩, Top.slot ho hx.1 F.slot_dict_repr ?_⟩
        · simp only [PyData.depth, PyData.shown, PyData.shownKv_eq]
          exact ReprK.dict ho hx.1 hdt hsys hna both
        · intro A E t Q hq hu keep hQ
          simp only [PyData.depth] at hu
          simp only [PyData.shown, PyData.shownKv_eq] at hQ
          exact call_dict_reprK ho hx.1 hdt hsys hna both hq (fun b _ => Clear.nil b) hu keep hQ (by rw [← PyData.shownKv_eq]; exact hz')
    · intro ds hn vs us ha rv
      cases ha with
      | nil =>
        cases rv
        exact .nil
      | cons h1 h2 =>
        cases rv with
        | cons r1 r2 =>
          simp only [List.cons.sizeOf_spec] at hn
          exact .cons (one _ (by omega) _ _ h1 r1) (all _ (by omega) _ _ h2 r2)
end
section
variable {X : Cx}
/-- repr(x), x data of any depth -/
def rReprX (K : PySem.W.Frag) : List V → Hp → VK → Prop := fun xs H Q =>
  ∃ v d, xs = [v] ∧ Dx K H v d ∧ d.showable = true ∧ d.depth ≤ 60 ∧ d.shown.length ≤ sizeLine ∧ Q (.str d.shown) H
theorem call_repr_X (hu : X.A.units + 64 < cLine) (hq : Quiet X.A) : CallR X (.builtin "repr") (rReprX X.K) := by
  intro pins s σ H xs us Q I r h
  obtain ⟨v, d, rfl, hd, hs, hdep, hsz, q⟩ := h
  obtain ⟨u, rfl, ru⟩ := vals1 r
  obtain ⟨as, rd, f⟩ := (sh_of I (sizeOf d + 1)).1 d (by omega) v u hd ru
  exact (f hs hsz).2 X.A X.xe s _ hq (by omega) (fun _ _ z => z) fun h' z tk keep => ⟨.str _, H, I.kept keep, ⟨z, rfl⟩, q⟩
end
end Lay
/-! The rules that speak of the written part, with that part named: so they stand within a comprehension, too. -/
namespace Lay
open PySem PySem.Spec PyProof.Rows L2
section
variable {X : Cx} {o e e2 : Expr} {es : List Expr} {ta tb to : TE} {t : TA} {K : PySem.W.Frag}
theorem ixLK (K : PySem.W.Frag) (h : X.K = K := by rfl) : IxR X (rIxL K) := h ▸ ix_list
theorem ixTK (K : PySem.W.Frag) (h : X.K = K := by rfl) : IxR X (rIxT K) := h ▸ ix_tup
def rLenK (K : PySem.W.Frag) : List V → Hp → VK → Prop := fun xs H Q => ∃ p ys, xs = [.ref p] ∧ (SqL K H p ys ∨ SqT K H p ys) ∧ Q (.int ys.length) H
theorem lenK (K : PySem.W.Frag) (h : X.K = K := by rfl) : CallR X (.builtin "len") (rLenK K) := h ▸ call_len_seq
theorem inK (K : PySem.W.Frag) (h : X.K = K := by rfl) : OpR X (compareOp .In) (rIn K false) := h ▸ op_in_seq
theorem notInK (K : PySem.W.Frag) (h : X.K = K := by rfl) : OpR X (compareOp .NotIn) (rIn K true) := h ▸ op_notIn_seq
theorem eqDK (K : PySem.W.Frag) (hu : X.A.units + 64 < cLine) (h : X.K = K := by rfl) : OpR X (compareOp .Eq) (rEqD K) := h ▸ op_eqD hu
theorem neDK (K : PySem.W.Frag) (hu : X.A.units + 64 < cLine) (h : X.K = K := by rfl) : OpR X (compareOp .NotEq) (rNeD K) := h ▸ op_neD hu
theorem ltDK (K : PySem.W.Frag) (hu : X.A.units + 64 < cLine) (h : X.K = K := by rfl) : OpR X (compareOp .Lt) (rLtD K) := h ▸ op_ltD hu
theorem reprK (K : PySem.W.Frag) (hu : X.A.units + 64 < cLine) (hq : Quiet X.A) (h : X.K = K := by rfl) : CallR X (.builtin "repr") (rReprX K) := h ▸ call_repr_X hu hq
theorem isiK (K : PySem.W.Frag) (h : X.K = K := by rfl) : CallR X (.builtin "isinstance") (rIsi K) := h ▸ call_isi
theorem slLK (K : PySem.W.Frag) (h : X.K = K := by rfl) : SlR X (rSlL K) := h ▸ sl_list
theorem slTK (K : PySem.W.Frag) (h : X.K = K := by rfl) : SlR X (rSlA K) := h ▸ sl_tupA
theorem catTK (K : PySem.W.Frag) (h : X.K = K := by rfl) : OpR X (binaryOp .Add) (rCatA K) := h ▸ op_catA
def rCopyK (K : PySem.W.Frag) : List V → Hp → VK → Prop := fun xs H Q => ∃ p ys, xs = [.ref p] ∧ (SqL K H p ys ∨ SqT K H p ys) ∧ ∀ l, H l = none → Q (.ref l) (upd H l (.lst ys))
theorem copyK (K : PySem.W.Frag) (h : X.K = K := by rfl) : CallR X (.type "list") (rCopyK K) := h ▸ call_list_of
theorem bmK (K : PySem.W.Frag) {T : String} {r : V → List V → Hp → VK → Prop} {name : Str} {apos cpos : Pos}
    (p : PE X (.Call (.Attribute o name apos) (e :: es) [] cpos) (tBM X.K T r to t)) (h : X.K = K := by rfl) :
    PE X (.Call (.Attribute o name apos) (e :: es) [] cpos) (tBM K T r to t) := h ▸ p
theorem bm0K (K : PySem.W.Frag) {T : String} {r : V → List V → Hp → VK → Prop} {name : Str} {apos cpos : Pos}
    (p : PE X (.Call (.Attribute o name apos) [] [] cpos) (tBM0 X.K T r to)) (h : X.K = K := by rfl) :
    PE X (.Call (.Attribute o name apos) [] [] cpos) (tBM0 K T r to) := h ▸ p
theorem fldK (K : PySem.W.Frag) {f : Str} {pos : Pos} (p : PE X (.Attribute o f pos) (tFld X.K to f)) (h : X.K = K := by rfl) : PE X (.Attribute o f pos) (tFld K to f) := h ▸ p
theorem gTupK (K : PySem.W.Frag) {tg : Expr} {n : Nat} {g : TGs} (p : PG X tg (gTup X.K n g)) (h : X.K = K := by rfl) : PG X tg (gTup K n g) := h ▸ p
theorem revK (K : PySem.W.Frag) {ex : Expr} (p : PE X ex (tRevL X.K ta)) (h : X.K = K := by rfl) : PE X ex (tRevL K ta) := h ▸ p
def rTupleK (K : PySem.W.Frag) : List V → Hp → VK → Prop := fun xs H Q => ∃ p ys, xs = [.ref p] ∧ ((SqL K H p ys ∧ ∀ l, H l = none → Q (.ref l) (upd H l (.tup ys))) ∨ (SqT K H p ys ∧ Q (.ref p) H))
theorem tupleK (K : PySem.W.Frag) (h : X.K = K := by rfl) : CallR X (.type "tuple") (rTupleK K) := h ▸ call_tuple_of
theorem piL (K : PySem.W.Frag) {tg it : Expr} (p : PI X tg it (iList X.K ta)) (h : X.K = K := by rfl) : PI X tg it (iList K ta) := h ▸ p
theorem piT (K : PySem.W.Frag) {tg it : Expr} (p : PI X tg it (iTup X.K ta)) (h : X.K = K := by rfl) : PI X tg it (iTup K ta) := h ▸ p
end
end Lay
/-! Errors of a program over Exception: made, their fields, which classes they are of. -/
namespace Lay
open PySem PySem.Spec PyProof.Rows L2

/-- the built-in classes above such an error -/
abbrev top3 : List Value := [.type "Exception", .type "BaseException", .type "object"]

structure ExC (K : PySem.W.Frag) (C : Addr) : Prop where
  made : PySem.W.excInitIn K C top3 "Exception.__new__" = true
  over : PySem.W.excOver K C top3 = true
  hd : PySem.W.hasDictIn K C = true
  sa : PySem.W.findIn K (.ref C) "__setattr__" = some (some (.builtin "object.__setattr__"))
  ga : PySem.W.findIn K (.ref C) "__getattribute__" =
    some (some (.builtin "BaseException.__getattribute__"))
  gg : PySem.W.findIn K (.ref C) "__getattr__" = some none
  exC : PySem.W.subIn K (.ref C) (.type "BaseException") = some true
  tyC : PySem.W.typeIn K (.ref C) = some (.type "type")
  kC : PySem.W.keepIn K (.ref C) = true

theorem ExC.cd {K : PySem.W.Frag} {C : Addr} (T : ExC K C) :
    ∃ cd, PySem.W.clsIn K C = some cd ∧ cd.hasDict = true := by
  have h := T.hd
  unfold PySem.W.hasDictIn at h
  cases e : PySem.W.clsIn K C with
  | none => rw [e] at h; cases h
  | some cd => rw [e] at h; exact ⟨cd, rfl, h⟩

section
open PySem.W PySem.HandSPX
open Builtin Builtin.ObjectAttr
variable {prog : Program} {w : World} {A : Around} {R : Result → Shared → Prop}
variable {hp : Heap} {g : Array GenState} {d : Drawn} {t : Nat} {os : OsState}
variable {K : Frag} {name : Str} {tk : Tok} {v : Value} {x C dx : Addr} {fv : Array Value}

theorem put_new (T : ExC K C) (X : K.In hp) (hx : hp.get? x = some { cls := .ref C, data := .fields fv })
    (ht : takerIn K C name = some none)
    (hq : ∀ h' tk' dx, (∀ b o, b ≠ x → hp.get? b = some o → h'.get? b = some o) → hp.objs.size ≤ dx → dx ≠ x →
      h'.get? x = some { cls := .ref C, dict := some dx, data := .fields fv } →
      h'.Ns1 dx (fun y => if y = name then some v else none) →
      R (.ok (.ret .none)) ⟨h', g, d, tk', os⟩) :
    codeAny (model prog w) A (.call (.builtin "object.__setattr__") ⟨[.ref x, .str name tk, v], []⟩) R ⟨hp, g, d, t, os⟩ := by
  obtain ⟨cd, hc, hh⟩ := T.cd
  have at0 : InstAt hp x { cls := .ref C, data := .fields fv } C none := ⟨hx, rfl, rfl, trivial⟩
  refine osa_openX F.store_Exception X at0 T.over ht (fun b => ?_)
  have far : x ≠ hp.objs.size := Nat.ne_of_lt (Heap.lt_size hx)
  have lc : Looks (model prog w) hp (classData C) cd := looks_clsIn X hc
  show wpAny _ _ (storeInOwnDict (.ref x) (.ref C) (.str name tk) name v b) _ _ _
  obtain ⟨nm, bs, mro, ns, qn, hd, sn, sb, ab, col, del⟩ := cd
  simp only at hh
  subst hh
  unfold storeInOwnDict ownDictForStores
  repeat (first
    | with_reducible refine store_in_new ?_ ?_
    | with_reducible refine wpAny_loadPart_at hx ?_
    | with_reducible refine lc.at ?_
    | wp_step)
  · exact ⟨_, #[], _,
      (Heap.get?_update_ne _ _ _ _ far.symm).trans (Heap.get?_push_at rfl rfl),
      rfl, fun e he => absurd he (by simp), fun _ => rfl⟩
  · intro h' tk' hn' hs
    have old : (hp.push { cls := .type "dict", data := .dict #[] }).get? x =
        some { cls := .ref C, data := .fields fv } := Heap.get?_push_of_some _ hx
    refine hq h' tk' hp.objs.size ?_ (Nat.le_refl _) far.symm ?_ hn'
    · intro b o hb ho
      have e1 := hs.2 b (Nat.ne_of_lt (Heap.lt_size ho))
      exact e1.trans ((Heap.get?_update_ne _ _ _ _ hb).trans (Heap.get?_push_of_some _ ho))
    · exact (hs.2 x far).trans (Heap.get?_update_self _ old rfl)

theorem put_old {m0 : Str → Option Value} {nl : List Str} (T : ExC K C) (X : K.In hp)
    (hx : hp.get? x = some { cls := .ref C, dict := some dx, data := .fields fv })
    (hns : hp.Ns1 dx m0) (hw : Within m0 nl) (hz : nl.length ≤ 1000)
    (ht : takerIn K C name = some none)
    (hq : ∀ h' tk', (∀ b o, b ≠ dx → hp.get? b = some o → h'.get? b = some o) →
      h'.Ns1 dx (fun y => if y = name then some v else m0 y) →
      R (.ok (.ret .none)) ⟨h', g, d, tk', os⟩) :
    codeAny (model prog w) A (.call (.builtin "object.__setattr__") ⟨[.ref x, .str name tk, v], []⟩) R ⟨hp, g, d, t, os⟩ := by
  obtain ⟨cd, hc, hh⟩ := T.cd
  obtain ⟨oD, _, _, hoD, _, _⟩ := hns.count hw
  have at0 : InstAt hp x { cls := .ref C, dict := some dx, data := .fields fv } C (some oD) := ⟨hx, rfl, rfl, hoD⟩
  refine osa_openX F.store_Exception X at0 T.over ht (fun b => ?_)
  have lc : Looks (model prog w) hp (classData C) cd := looks_clsIn X hc
  show wpAny _ _ (storeInOwnDict (.ref x) (.ref C) (.str name tk) name v b) _ _ _
  obtain ⟨nm, bs, mro, ns, qn, hd, sn, sb, ab, col, del⟩ := cd
  simp only at hh
  subst hh
  unfold storeInOwnDict ownDictForStores
  repeat (first
    | with_reducible refine PySem.OEX.store_in_old hns hw hz ?_
    | with_reducible refine wpAny_loadPart_at hx ?_
    | with_reducible refine lc.at ?_
    | wp_step)
  intro h' tk' hn' hs
  refine hq h' tk' ?_ hn'
  intro b o hb ho
  exact (hs.2 b hb).trans ho
end

section
variable {X : Cx} {pins : List (Addr × Obj)} {σ : L2.St} {H : Hp} {s : Shared} {a C dx : Addr} {f : Str} {y : V} {u : Value}
variable {fs : List (Str × V)} {Q : Unit → Shared → Prop} {E : Value → Shared → Prop} {A : Around}
theorem xst_new (T : ExC X.K C) (I : Inv X pins σ H s) (e : H a = some (exo a C none))
    (ht : PySem.W.takerIn X.K C f = some none) (ry : RelV y u)
    (h : ∀ dx s', H dx = none → dx ≠ a →
      Inv X pins σ (upd (upd H dx (exd dx [(f, y)])) a (exo a C (some dx))) s' → Q () s') :
    wpAny (model X.prog X.w) A (setAttr (.ref a) f u) Q E s := by
  obtain ⟨t1, ho⟩ := exo_at I.hok e
  obtain ⟨hp, g, d, t, os⟩ := s
  have at0 : PySem.W.InstAt hp a _ C none := ⟨ho, rfl, rfl, trivial⟩
  refine PySem.W.set_plain I.kIn at0 T.sa ?_
  refine put_new T I.kIn ho ht ?_
  intro h' tk' dx k dn dne hx hn
  have none_d : H dx = none := I.hok.fresh dn
  have offd : ∀ {b : Addr} {o : Obj}, hp.get? b = some o → b ≠ dx := by
    intro b o q
    exact Nat.ne_of_lt (Nat.lt_of_lt_of_le (Heap.lt_size q) dn)
  have offa : ∀ {b : Addr}, H b = none → b ≠ a := by
    intro b n z
    rw [z, e] at n
    cases n
  have un : Un X.fs [] H (upd (upd H dx (exd dx [(f, y)])) a (exo a C (some dx))) hp h' := by
    refine ⟨?_, ?_, ?_, ?_, ?_, ?_, ?_⟩
    · intro b o q n _ _
      exact k b o (offa n) q
    · intro b o q n _ _
      exact ⟨o.slots, k b o (offa n) q⟩
    · intro b o q n _
      rw [upd_ne (offa n), upd_ne (offd q)]
      exact n
    · intro b o q _
      rcases Classical.em (b = a) with z | z
      · exact ⟨_, by rw [z]; exact hx⟩
      · exact ⟨o, k b o z q⟩
    · intro b xs q
      rw [upd_ne (at_ne e q exo_tup), upd_ne (ne_of_none q none_d)]
      exact q
    · intro b o v q
      rw [upd_ne (at_ne e q exo_frz), upd_ne (ne_of_none q none_d)]
      exact q
    · intro b ps q
      exact ⟨#[], by rw [upd_ne (at_ne e q exo_tbl), upd_ne (ne_of_none q none_d), q]; simp⟩
  refine h dx _ none_d dne (I.un (t' := tk') un ?_)
  intro b o q
  rcases Classical.em (b = a) with hb | hb
  · subst hb
    rw [upd_same] at q
    cases q
    exact exo_ok hx
  · rw [upd_ne hb] at q
    rcases Classical.em (b = dx) with hd | hd
    · subst hd
      rw [upd_same] at q
      cases q
      exact exd_ok hn (relO_put (fs := []) ry fun _ => True.intro)
    · rw [upd_ne hd] at q
      refine (I.hok b o q).stay ?_ ?_ ?_
      · intro c v hc z
        refine k c v ?_ z
        rcases hc with hc | hc
        · rw [hc]
          exact hb
        · exact at_ne e hc exo_own
      · intro c hc
        rw [upd_ne (at_ne e hc exo_own), upd_ne (ne_of_none hc none_d)]
        exact hc
      · intro c xs hc
        rw [upd_ne (at_ne e hc exo_tup), upd_ne (ne_of_none hc none_d)]
        exact hc

theorem xst_old (T : ExC X.K C) (I : Inv X pins σ H s) (e : H a = some (exo a C (some dx)))
    (ed : H dx = some (exd dx fs)) (hl : fs.length ≤ 900)
    (ht : PySem.W.takerIn X.K C f = some none) (ry : RelV y u)
    (h : ∀ s', Inv X pins σ (upd H dx (exd dx ((f, y) :: fs))) s' → Q () s') :
    wpAny (model X.prog X.w) A (setAttr (.ref a) f u) Q E s := by
  obtain ⟨t1, ho⟩ := exo_at I.hok e
  obtain ⟨mA, hns, rel⟩ := exd_at I.hok ed
  have hw := within_of rel
  obtain ⟨hp, g, d, t, os⟩ := s
  obtain ⟨oD, _, _, hoD, _, _⟩ := hns.count hw
  have at0 : PySem.W.InstAt hp a _ C (some oD) := ⟨ho, rfl, rfl, hoD⟩
  refine PySem.W.set_plain I.kIn at0 T.sa ?_
  refine put_old T I.kIn ho hns hw ?_ ht ?_
  · rw [List.length_map]
    omega
  intro h' tk' k hn
  have there : ∃ o, h'.get? dx = some o := by
    obtain ⟨o, _, _, e', _⟩ := hn
    exact ⟨o, e'⟩
  exact h _ (I.write (t' := tk') (x := dx) (e := dx) (o := exd dx ((f, y) :: fs)) (by rw [ed]; exact True.intro) (.inl rfl) k there (exd_ok hn (relO_put ry rel)))
end

/-- o.f = e, o an error that is being made -/
def tXst (K : PySem.W.Frag) (f : Str) (to te : TE) : TS := fun D σ H =>
  te σ H fun y H1 => to σ H1 fun x H2 => ∃ a C : Addr, x = .ref a ∧ ExC K C ∧ PySem.W.findIn K (.ref C) f = some none ∧
    ((H2 a = some (exo a C none) ∧
        ∀ dx, H2 dx = none → dx ≠ a → D.nx σ (upd (upd H2 dx (exd dx [(f, y)])) a (exo a C (some dx)))) ∨
      ∃ (dx : Addr) (fs : List (Str × V)), H2 a = some (exo a C (some dx)) ∧ H2 dx = some (exd dx fs) ∧
        fs.length ≤ 900 ∧ D.nx σ (upd H2 dx (exd dx ((f, y) :: fs))))
theorem ps_xst {X : Cx} {o e : Expr} {to te : TE} {f : Str} {p' pos : Pos} (ho : PE X o to) (he : PE X e te)
    (hs : swapsWith e (some (.Attribute o f p')) pos.line X.env = pure false := by rfl) :
    PS X (.Assign [.Attribute o f p'] e pos) (tXst X.K f to te) where
  run := by
    intro pins s σ H D I h
    refine plainObj_wpAny_Assign_Attribute (thn (he.run pins s σ H _ I h) ?_) hs
    rintro v s1 ⟨y, H1, I1, r1, q1⟩
    refine thn (ho.run pins s1 σ H1 _ I1 q1) ?_
    rintro u s2 ⟨x, H2, I2, r2, a, C, rfl, T, hf, q⟩
    have ht : PySem.W.takerIn X.K C f = some none := by
      unfold PySem.W.takerIn
      rw [hf]
      rfl
    obtain rfl : u = Value.ref a := r2
    rcases q with ⟨ea, q⟩ | ⟨dx, fs, ea, ed, hl, q⟩
    · exact xst_new T I2 ea ht r1 fun dx s' n ne J => ⟨σ, _, J, q dx n ne⟩
    · exact xst_old T I2 ea ed hl ht r1 fun s' J => ⟨σ, _, J, q⟩
end Lay
/-! An error of a program is made, its parameters by position or by name. -/
namespace PySem
namespace LayK
open PySem.W PySem.Calls PyProof.Rows PySem.HandSPX
section
variable {prog : Program} {w : World} {A : Around} {E : Value → Shared → Prop} {R : Result → Shared → Prop}
variable {h : Heap} {g : Array GenState} {d : Drawn} {t : Nat} {os : OsState}
variable {nm q : Str} {C N : Addr} {bs bm bmB : List Value} {hdct : Bool} {sn : List Str} {sub : List Value}
variable {ab : Bool} {col : Option Bool} {dd : Option Addr} {k0 k1 k2 k3 k5 : Option Value} {B newId initId : String}
variable {rest : List Value} {kw : List (Str × Value)} {fI : Addr}

theorem check_newK {M : Model} (F : ExcBaseFacts B newId initId bmB)
    (hT : ∀ X : String, bm.contains (.type X) = bmB.contains (.type X)) {Q : Unit → Shared → Prop}
    (hC : h.get? C = some (excClassObj nm q C N bs bm hdct sn sub ab col dd k0 k1 k2 k3 k5 newId))
    (hq : Q () ⟨h, g, d, t, os⟩) :
    wpAny M A (checkBuiltinCall newId ⟨.ref C :: rest, kw⟩) Q E ⟨h, g, d, t, os⟩ := by
  have has : (Value.ref C :: bm).contains (.type B) = true := by
    rw [List.contains_cons, hT, F.hasB, Bool.or_true]
  have star := F.noStar
  simp only [checkBuiltinCall, F.newKind, F.newSplit, F.newRow]
  repeat (first
    | refine wpAny_loadPart_at hC ?_
    | (refine wpAny_isSubtype_exc hC ?_; rw [has])
    | refine wpAny_staticBase_exc hC ?_
    | refine wpAny_madeBy_exc hC ?_
    | simp only [bne_self_eq_false, Bool.false_eq_true, if_false]
    | wp_step)
  exact hq

theorem newK (F : ExcBaseFacts B newId initId bmB)
    (hT : ∀ X : String, bm.contains (.type X) = bmB.contains (.type X))
    (hC : h.get? C = some (excClassObj nm q C N bs bm hdct sn sub ab col dd k0 k1 k2 k3 k5 newId))
    (hq : R (.ok (.ret (.ref (h.objs.size + 1)))) ⟨(h.push (kdv_tup rest)).push (excO C h.objs.size), g, d, t, os⟩)
    (hrest : rest.length ≤ sizeLine) :
    codeAny (model prog w) A (.builtin newId ⟨.ref C :: rest, kw⟩) R ⟨h, g, d, t, os⟩ := by
  have ends := F.ends
  have c1 : (Value.ref C :: bm).contains (.type B) = true := by
    rw [List.contains_cons, hT, F.hasB, Bool.or_true]
  have c2 : (Value.ref C :: bm).contains (.type "AttributeError") = false := by
    rw [List.contains_cons, hT, F.noAttr]; rfl
  have c3 : (Value.ref C :: bm).contains (.type "NameError") = false := by
    rw [List.contains_cons, hT, F.noName]; rfl
  refine codeAny_builtinAt F.entry ?_
  unfold Builtin.«BaseException.__new__»
  refine wpAt_bind ?_
  show wpAt _ _ _ (stack >>= _) _ _ _
  refine wpAt_bind (wpAt_stack fun p below => wpAt_of_wpAny ?_)
  wp_walk
  refine wpAt_of_wpAny ?_
  rw [F.owner]
  repeat (first
    | with_reducible refine wpAny_madeHere_exc F.canon hC ?_
    | with_reducible refine wpAny_loadPart_at hC ?_
    | (with_reducible refine wpAny_isSubtype_exc hC ?_; first | rw [c1] | rw [c2] | rw [c3])
    | wp_step)
  show R _ _
  rw [Heap.size_push]
  exact hq

theorem type_callK (F : ExcBaseFacts B newId initId bmB)
    (hT : ∀ X : String, bm.contains (.type X) = bmB.contains (.type X)) {Q : Fin → Shared → Prop}
    (hC : h.get? C = some (excClassObj nm q C N bs bm hdct sn sub ab col dd k0 k1 k2 k3 k5 newId))
    (hi : Looks (model prog w) h (typeLookup (.ref C) "__init__") (some (.ref fI)))
    (hb : ∀ self, Looks (model prog w) h (bindSpecial (.ref fI) self) (.ref fI, [self]))
    (hrest : rest.length ≤ sizeLine)
    (hq : codeAny (model prog w) A (.call (.ref fI) ⟨.ref (h.objs.size + 1) :: rest, kw⟩)
      (fun r s' => match r with
        | .ok (.ret v) => v = .none ∧ Q (.done (.ret (.ref (h.objs.size + 1)))) s'
        | .ok _ => False
        | .error e => E e s')
      ⟨(h.push (kdv_tup rest)).push (excO C h.objs.size), g, d, t, os⟩) :
    wpAny (model prog w) A (Builtin.«type.__call__» ⟨.ref C :: rest, kw⟩) Q E ⟨h, g, d, t, os⟩ := by
  repeat (first
    | with_reducible refine wpAny_loadPart_at hC ?_
    | with_reducible refine wpAny_madeBy_exc hC ?_
    | wp_step)
  refine codeAny_call_builtin_code (Code.quiet_builtin _ F.quiet) (check_newK F hT hC ?_)
  refine newK F hT hC ?_ hrest
  show wpAny _ _ _ _ _ _
  have k : ∀ b o, h.get? b = some o → ((h.push (kdv_tup rest)).push (excO C h.objs.size)).get? b = some o := by
    intro b o e
    exact Heap.get?_push_of_some _ (Heap.get?_push_of_some _ e)
  have hC1 := k _ _ hC
  have got : ((h.push (kdv_tup rest)).push (excO C h.objs.size)).get? (h.objs.size + 1) = some (excO C h.objs.size) := by
    heap_get
  have self : (Value.ref C :: bm).contains (.ref C) = true := by simp
  have i1 := hi.keeps k
  have b1 := (hb (.ref (h.objs.size + 1))).keeps k
  unfold isInstance
  repeat (first
    | with_reducible refine wpAny_loadPart_at got ?_
    | (with_reducible refine wpAny_isSubtype_exc hC1 ?_; rw [self])
    | wp_step)
  show wpAny _ _ (typeLookup (.ref C) _) _ _ _
  refine i1.at ?_
  refine wpAny_holding (wpAny_bind (b1.at ?_))
  refine wpAny_bind (wpAny_call (codeAny_mono hq ?_))
  intro r s' z
  rcases r with e | fl
  · exact z
  cases fl with
  | ret v =>
    obtain ⟨rfl, z⟩ := z
    first
      | exact wpAny_pure (wpAny_pure z)
      | (wp_walk; exact z)
  | next => exact z.elim
  | brk => exact z.elim
  | cont => exact z.elim

theorem call_ownK (F : ExcBaseFacts B newId initId bmB)
    (hT : ∀ X : String, bm.contains (.type X) = bmB.contains (.type X))
    (hC : h.get? C = some (excClassObj nm q C N bs bm hdct sn sub ab col dd k0 k1 k2 k3 k5 newId))
    (hi : Looks (model prog w) h (typeLookup (.ref C) "__init__") (some (.ref fI)))
    (hb : ∀ self, Looks (model prog w) h (bindSpecial (.ref fI) self) (.ref fI, [self]))
    (hrest : rest.length ≤ sizeLine)
    (hq : codeAny (model prog w) (A.under (.builtin "type.__call__" ⟨.ref C :: rest, kw⟩))
      (.call (.ref fI) ⟨.ref (h.objs.size + 1) :: rest, kw⟩) (InitBack (h.objs.size + 1) R)
      ⟨(h.push (kdv_tup rest)).push (excO C h.objs.size), g, d, t, os⟩) :
    codeAny (model prog w) A (.call (.ref C) ⟨rest, kw⟩) R ⟨h, g, d, t, os⟩ := by
  have f1 := tc_lookup
  have f2 := tc_bind (.ref C)
  have hTy : (⟨h, g, d, t, os⟩ : Shared).TypeIs (.ref C) "type" := ⟨_, hC, rfl⟩
  refine codeAny_of_tree ?_
  show wpAny _ _ (callAny (.ref C) _) _ _ _
  repeat (any_goals (first
    | assumption
    | with_reducible refine wpAny_loadPart_at hC ?_
    | wp_step))
  refine ⟨rfl, ?_⟩
  refine codeAny_call_builtin_at (Code.quiet_builtin _ (by decide +kernel)) entry_typeCall ?_
  refine wpAny_check_type_call_sub hC (type_callK F hT hC hi hb hrest ?_)
  refine codeAny_mono hq ?_
  intro r s' z
  rcases r with e | (v | _ | _ | _) <;> exact z
end
end LayK
end PySem
namespace Lay
open PySem PySem.Spec PyProof.Rows L2
theorem Quiet.make {A : Around} (h : Quiet A) (C : Addr) (us : List Value) (kw : List (Str × Value)) :
    Quiet (A.under (.builtin "type.__call__" ⟨.ref C :: us, kw⟩)) := by
  have none : (Code.builtin "type.__call__" ⟨Value.ref C :: us, kw⟩).guards = [] := by rfl
  have h' : A.guards = some [] := h
  show (A.under _).guards = some []
  unfold Around.under
  rw [none, h']
  rfl

section
variable {X : Cx} {pins : List (Addr × Obj)} {σ : L2.St} {H1 : Hp} {s1 : Shared} {C fI : Addr} {k : Nat} {fd : FuncData}
variable {ps : List Str} {sp : Sp} {us ws : List Value} {vs : List V} {kw : List (Str × Value)}
theorem makeX (T : ExC X.K C) (iC : PySem.W.findIn X.K (.ref C) "__init__" = some (some (.ref fI)))
    (tI : PySem.W.typeIn X.K (.ref fI) = some (.type "function"))
    (F1 : FnG X.prog X.w X.K X.mg X.base CX0 k fI fd ps sp) (hr : Room (k + 1) X.A) (hq : Quiet X.A)
    (hb : ∀ (s : Shared) (self : Value), X.K.In s.heap → BindsTo s fd ⟨self :: us, kw⟩ (ps.zip (self :: ws)))
    (I1 : Inv X pins σ H1 s1) (r1 : Vals vs ws) (hus : us.length ≤ sizeLine) {G : Addr → Hp → Prop}
    (q1 : ∀ a, H1 a = none → sp (.ref a :: vs) (upd H1 a (exo a C none)) (fun v H2 => v = .non ∧ G a H2) E0)
    {R : Value → Shared → Prop}
    (fin : ∀ a s2, s1.heap.objs.size ≤ a → (∀ b o, s1.heap.get? b = some o → s2.heap.get? b = some o) →
      Inv X pins σ (upd H1 a (exo a C none)) s2 → ∀ u s',
      CE X.stack X.prog X.w (upd H1 a (exo a C none)) s2 (fun v H2 => v = .non ∧ G a H2) u s' → R (.ref a) s') :
    wpAny (model X.prog X.w) X.A (call (.ref C) us kw) R X.xe s1 := by
  obtain ⟨nm, N, q, bs, bm, hdct, sn, sub, ab, col, dd, k0, k1, k2, k3, k5, hC, hT⟩ := PySem.W.excInit_of I1.kIn T.made
  obtain ⟨hp, g, dr, tk, os⟩ := s1
  have big : hp.objs.size ≤ hp.objs.size + 1 := Nat.le_succ _
  have free : H1 (hp.objs.size + 1) = none := I1.hok.fresh big
  have go := q1 (hp.objs.size + 1) free
  have old : ∀ b o, hp.get? b = some o →
      ((hp.push (PySem.W.kdv_tup us)).push (PySem.HandSPX.excO C hp.objs.size)).get? b = some o := by
    intro b o e
    exact Heap.get?_push_of_some _ (Heap.get?_push_of_some _ e)
  have got : ((hp.push (PySem.W.kdv_tup us)).push (PySem.HandSPX.excO C hp.objs.size)).get? (hp.objs.size + 1) =
      some (PySem.HandSPX.excO C hp.objs.size) := by heap_get
  have I2 : Inv X pins σ (upd H1 (hp.objs.size + 1) (exo (hp.objs.size + 1) C none))
      ⟨(hp.push (PySem.W.kdv_tup us)).push (PySem.HandSPX.excO C hp.objs.size), g, dr, tk, os⟩ :=
    I1.laid (t' := tk) old big (exo_ok got)
  have r2 : Vals (V.ref (hp.objs.size + 1) :: vs) (Value.ref (hp.objs.size + 1) :: ws) := .cons rfl r1
  refine wpAny_call (PySem.LayK.call_ownK F.excBase_Exception hT hC (PySem.W.looks_findIn I1.kIn iC)
    (fun self => PySem.W.bind_fn I1.kIn self tI) hus ?_)
  have main := F1.run _ X.stack _ _ ⟨Value.ref (hp.objs.size + 1) :: us, kw⟩ (Value.ref (hp.objs.size + 1) :: ws) _ _ E0
    (hr.make C us kw) (hq.make C us kw) (I2.env0.make C us kw) (hb _ _ I2.kIn) r2 go
  refine codeAny_mono main ?_
  intro r s' z
  rcases r with er | fl
  · exact (z : False).elim
  · cases fl with
    | next => exact (z : False).elim
    | brk => exact (z : False).elim
    | cont => exact (z : False).elim
    | ret u =>
      have z' : CE X.stack X.prog X.w _ _ _ u s' := z
      have z2 := fin _ _ big old I2 u s' z'
      obtain ⟨v, H2, _, _, _, _, rv, ev, _⟩ := z'
      subst ev
      exact ⟨rv, z2⟩
end

/-- C(e, ..), C's own __init__ keeping sp: the error stands at a, its fields in its dict -/
def tMkX (C : Addr) (sp : Sp) (ta : TA) : TE := fun σ H Q => ta σ H fun vs H1 => vs.length ≤ 1000 ∧
  ∀ a, H1 a = none → sp (.ref a :: vs) (upd H1 a (exo a C none)) (fun v H2 => v = .non ∧ Q (.ref a) H2) E0
/-- the same, behind raise -/
def tMkR (C : Addr) (sp : Sp) (ta : TA) : L2.St → Hp → XK → Prop := fun σ H Q => ta σ H fun vs H1 => vs.length ≤ 1000 ∧
  ∀ a, H1 a = none → sp (.ref a :: vs) (upd H1 a (exo a C none)) (fun v H2 => v = .non ∧
    ∃ (d : Addr) (fs : List (Str × V)), H2 a = some (exo a C (some d)) ∧ H2 d = some (exd d fs) ∧ H1 d = none ∧
      Q (.ref C) (some d) (upd (del H2 a) d (.xd fs))) E0

/-- a class with its own __init__, as the text writes it -/
structure Own (P : Program) (w : World) (K : PySem.W.Frag) (mg : Str → Option Value) (base : Heap) (k : Nat) (x : Str) (C : Addr)
    (ps : List Str) (sp : Sp) : Prop where
  ex : ExC K C
  gm : mg x = some (.ref C)
  ini : ∃ fI fd, PySem.W.findIn K (.ref C) "__init__" = some (some (.ref fI)) ∧ PySem.W.typeIn K (.ref fI) = some (.type "function") ∧
    FnG P w K mg base CX0 k fI fd ("self" :: ps) sp ∧
    (∀ (s : Shared) (self : Value) (us : List Value), us.length = ps.length →
      BindsTo s fd ⟨self :: us, []⟩ ((("self" : Str) :: ps).zip (self :: us))) ∧
    (∀ (s : Shared) (self : Value) (us : List Value), us.length = ps.length →
      BindsTo s fd ⟨[self], ps.zip us⟩ ((("self" : Str) :: ps).zip (self :: us)))
section
variable {X : Cx} {k : Nat} {ps : List Str} {sp : Sp} {x : Str} {C : Addr} {p pos : Pos} {e : Expr} {es : List Expr} {t : TA} {kws : List Keyword}
theorem pe_mkx (D : Own X.prog X.w X.K X.mg X.base k x C ps sp) (hr : Room (k + 1) X.A) (hq : Quiet X.A) (ha : PA X (e :: es) t)
    (hg : Gl X x := by rfl)
    (hdb : (x == ("__debug__" : Str)) = false := by decide)
    (he : starEach (e :: es) X.env = (false, eval e X.env) :: starEach es X.env := by rfl)
    (hpl : (backTo pos (starEach es X.env)).any (·.1) = false := by rfl) :
    PE X (.Call (.Name x p) (e :: es) [] pos) (tMkX C sp t) where
  run := by
    obtain ⟨T, gm, fI, fd, iC, tI, F1, b1, _⟩ := D
    intro pins s σ H Q I h
    refine wpAny_Call_Name_kw (ld_glob I hg gm ?_ hdb)
    refine PySem.W.callWith_K (h₀ := X.base) I.ok.mod.kin T.kC (thn (ha.run pos pins s σ H _ I h) ?_) he hpl
    rintro us s1 ⟨vs, H1, I1, r1, hz, q1⟩
    refine ⟨I1.kIn, ?_⟩
    have l1 := r1.length
    have l2 : us.length = ps.length := by
      have z := F1.len _ _ _ _ (q1 _ (I1.hok.fresh (Nat.le_refl _)))
      simp only [List.length_cons] at z
      omega
    refine makeX T iC tI F1 hr hq (fun s self _ => b1 s self us l2) I1 r1 (by show us.length ≤ _; rw [sizeLine_eq]; omega) q1 ?_
    intro a s2 _ _ I2 u s' z
    obtain ⟨v, H2, J, _, _, q⟩ := I2.after z
    exact ⟨.ref a, H2, J, rfl, q⟩

theorem pe_mkxk {tk : TA} (D : Own X.prog X.w X.K X.mg X.base k x C ps sp) (hr : Room (k + 1) X.A) (hq : Quiet X.A) (hkw : PK X kws tk)
    (hks : (backToKw pos (keywordEach kws X.env)).filterMap (·.1) = ps := by rfl)
    (hg : Gl X x := by rfl)
    (hall : (backToKw pos (keywordEach kws X.env)).all (·.1.isSome) = true := by rfl)
    (hdb : (x == ("__debug__" : Str)) = false := by decide)
    (hpl : ((backTo pos (starEach [] X.env)).any (·.1) || (backToKw pos (keywordEach kws X.env)).any (·.1.isNone)) = false := by rfl) :
    PE X (.Call (.Name x p) [] kws pos) (tMkX C sp tk) where
  run := by
    obtain ⟨T, gm, fI, fd, iC, tI, F1, _, b2⟩ := D
    intro pins s σ H Q I h
    refine wpAny_Call_Name_kw (ld_glob I hg gm ?_ hdb)
    refine PySem.W.callWith_KW0 (h₀ := X.base) I.ok.mod.kin T.kC hall (thn (hkw.run pos pins s σ H _ I h) ?_) hpl
    rintro ws s1 ⟨vs, H1, I1, r1, hz, q1⟩
    refine ⟨I1.kIn, ?_⟩
    rw [hks]
    have l1 := r1.length
    have l2 : ws.length = ps.length := by
      have z := F1.len _ _ _ _ (q1 _ (I1.hok.fresh (Nat.le_refl _)))
      simp only [List.length_cons] at z
      omega
    refine makeX (us := []) T iC tI F1 hr hq (fun s self _ => b2 s self ws l2) I1 r1 (Nat.zero_le _) q1 ?_
    intro a s2 _ _ I2 u s' z
    obtain ⟨v, H2, J, _, _, q⟩ := I2.after z
    exact ⟨.ref a, H2, J, rfl, q⟩

theorem pmk_x (D : Own X.prog X.w X.K X.mg X.base k x C ps sp) (hr : Room (k + 1) X.A) (hq : Quiet X.A) (ha : PA X (e :: es) t)
    (hg : Gl X x := by rfl)
    (hdb : (x == ("__debug__" : Str)) = false := by decide)
    (he : starEach (e :: es) X.env = (false, eval e X.env) :: starEach es X.env := by rfl)
    (hpl : (backTo pos (starEach es X.env)).any (·.1) = false := by rfl) :
    PMk X (.Call (.Name x p) (e :: es) [] pos) (tMkR C sp t) := by
  obtain ⟨T, gm, fI, fd, iC, tI, F1, b1, _⟩ := D
  intro pins s σ H Q I h
  refine wpAny_Call_Name_kw (ld_glob I hg gm ?_ hdb)
  refine PySem.W.callWith_K (h₀ := X.base) I.ok.mod.kin T.kC (thn (ha.run pos pins s σ H _ I h) ?_) he hpl
  rintro us s1 ⟨vs, H1, I1, r1, hz, q1⟩
  refine ⟨I1.kIn, ?_⟩
  have l1 := r1.length
  have l2 : us.length = ps.length := by
    have z := F1.len _ _ _ _ (q1 _ (I1.hok.fresh (Nat.le_refl _)))
    simp only [List.length_cons] at z
    omega
  refine makeX T iC tI F1 hr hq (fun s self _ => b1 s self us l2) I1 r1 (by show us.length ≤ _; rw [sizeLine_eq]; omega) q1 ?_
  intro a s2 big old I2 u s' z
  obtain ⟨v, H2, os2, bare2, un2, hok2, _, _, d, fs, ea, ed, hd1, q⟩ := z
  obtain ⟨hp, g, dr, tk, os⟩ := s1
  obtain ⟨hp2, g2, dr2, tk2, os2'⟩ := s2
  obtain ⟨hp3, g3, dr3, tk3, os3⟩ := s'
  have same : os2' = os := by
    have e1 := I1.os
    have e2 := I2.os
    simp only at e1 e2
    rw [e1, e2]
  subst same
  exact mk_end (raises_own T.exC T.tyC) I1 big old un2 hok2 os2 bare2 ea ed hd1 q
end
end Lay
namespace Lay
open PySem PySem.Spec PyProof.Rows L2
/-- a class with no __init__ of its own -/
structure Own0 (K : PySem.W.Frag) (mg : Str → Option Value) (x : Str) (C : Addr) : Prop where
  ex : ExC K C
  gm : mg x = some (.ref C)
  ini : PySem.W.findIn K (.ref C) "__init__" = some (some (.builtin "Exception.__init__"))
section
variable {X : Cx} {x : Str} {C : Addr} {p pos : Pos}
theorem make0 (D : Own0 X.K X.mg x C) {s : Shared} (hk : X.K.In s.heap) {Q E : Value → Shared → Prop}
    (h : ∀ h' a, s.heap.objs.size ≤ a → (∀ b o, s.heap.get? b = some o → h'.get? b = some o) →
      (∃ t1 : Addr, h'.get? a = some ({ cls := .ref C, dict := none, data := .fields #[.ref t1, .none, .none, .none, .bool false, .none] } : Obj)) →
      Q (.ref a) { s with heap := h' }) :
    wpAny (model X.prog X.w) X.A (call (.ref C) []) Q E s := by
  obtain ⟨T, gm, iB⟩ := D
  obtain ⟨nm, N, q, bs, bm, hdct, sn, sub, ab, col, dd, k0, k1, k2, k3, k5, hC, hT⟩ := PySem.W.excInit_of hk T.made
  obtain ⟨hp, g, dr, tk, os⟩ := s
  refine PySem.W.call_B F.excBase_Exception hT hC (PySem.W.looks_findIn hk iB) (Nat.zero_le _) ?_
  intro h' old got _
  exact h h' _ (Nat.le_succ _) old ⟨_, got⟩
/-- C() -/
def tMk0 (C : Addr) : TE := fun _ H Q => ∀ a, H a = none → Q (.ref a) (upd H a (exo a C none))
theorem pe_mk0 (D : Own0 X.K X.mg x C) (hg : Gl X x := by rfl) (hdb : (x == ("__debug__" : Str)) = false := by decide) :
    PE X (.Call (.Name x p) [] [] pos) (tMk0 C) where
  run := by
    intro pins s σ H Q I h
    apply wpAny_Call_Name_kw
    refine ld_glob I hg D.gm ?_ hdb
    refine PySem.W.callWith_K0 I.kIn D.ex.kC (make0 D I.kIn ?_)
    intro h' a big old got
    obtain ⟨t1, got⟩ := got
    obtain ⟨hp, g, dr, tk, os⟩ := s
    have J : Inv X pins σ (upd H a (exo a C none)) ⟨h', g, dr, tk, os⟩ := I.laid (t' := tk) old big (exo_ok got)
    exact ⟨.ref a, _, J, rfl, h a (I.hok.fresh big)⟩
theorem pmk_x0 (D : Own0 X.K X.mg x C) (hg : Gl X x := by rfl) (hdb : (x == ("__debug__" : Str)) = false := by decide) :
    PMk X (.Call (.Name x p) [] [] pos) (fun _ H Q => Q (.ref C) none H) := by
  intro pins s σ H Q I h
  apply wpAny_Call_Name_kw
  refine ld_glob I hg D.gm ?_ hdb
  refine PySem.W.callWith_K0 I.kIn D.ex.kC (make0 D I.kIn ?_)
  intro h' a big old got
  obtain ⟨t1, got⟩ := got
  have off : s.heap.get? a = none := by
    cases e : s.heap.get? a with
    | none => rfl
    | some o => exact absurd (Heap.lt_size e) (Nat.not_lt.mpr big)
  exact ⟨a, _, _, s, H, .ref C, none, rfl, I, old, off, got, ⟨rfl, rfl⟩, rfl, rfl, I.hok.fresh big, rfl, I.bare,
    raises_own D.ex.exC D.ex.tyC, h⟩
end

/-! ### a field is read -/
/-- o.f, o an error that stands with its fields -/
def tXf (K : PySem.W.Frag) (f : Str) (te : TE) : TE := fun σ H Q => te σ H fun x H1 =>
  ∃ (a C dx : Addr) (fs : List (Str × V)) (v : V), x = .ref a ∧ ExC K C ∧ PySem.W.findIn K (.ref C) f = some none ∧
    H1 a = some (exo a C (some dx)) ∧ H1 dx = some (exd dx fs) ∧ fs.lookup f = some v ∧ Q v H1
theorem pe_xf {X : Cx} {e : Expr} {te : TE} {f : Str} {pos : Pos} (he : PE X e te)
    (hb : attributeBase e f X.env (eval e X.env) = eval e X.env := by rfl) : PE X (.Attribute e f pos) (tXf X.K f te) where
  run := by
    intro pins s σ H Q I h
    refine attr_of hb (thn (he.run pins s σ H _ I h) ?_)
    rintro u s1 ⟨x, H1, I1, rx, a, C, dx, fs, v, rfl, T, hf, ea, ed, hl, q⟩
    obtain rfl : u = Value.ref a := rx
    obtain ⟨t1, ho⟩ := exo_at I1.hok ea
    obtain ⟨mA, hns, rel⟩ := exd_at I1.hok ed
    obtain ⟨od, hod, look⟩ := lookIn_ns hns
    obtain ⟨z, hz, rz⟩ := RelO.some_of (v := v) (o := mA f) (by rw [← hl]; exact rel f)
    have at0 : PySem.W.InstAt s1.heap a _ C (some od) := ⟨ho, rfl, rfl, hod⟩
    refine HandSPX.exc_get I1.kIn at0 T.ga T.gg T.exC ?_ (handed_of rz) ⟨v, H1, I1.tok _, rz, q⟩
    exact PySem.W.findObj_own T.hd hf rfl (by rw [look, hz])

/-! ### isinstance -/
structure IsC (K : PySem.W.Frag) (C : Addr) : Prop where
  ex : ExC K C
  kc : PySem.W.findIn K (.ref C) "__class__" = some (some (.builtin "object.__class__"))
  mo : PySem.W.mroIn K C (.type "object") = some true
structure IsK (K : PySem.W.Frag) : Prop where
  gt : PySem.W.specialIn K (.builtin "object.__class__") "__get__" = some (some (.builtin "getset_descriptor.__get__"))
  tk : PySem.W.takesIn K (.builtin "object.__class__") = some true
/-- what stands of the dict -/
def DictAt (H : Hp) (d : Option Addr) : Prop := ∀ dx, d = some dx → ∃ fs, H dx = some (exd dx fs) ∨ H dx = some (.xd fs)
section
variable {X : Cx}
theorem isE {pins : List (Addr × Obj)} {σ : L2.St} {H : Hp} {s : Shared} {a C : Addr} {oe : Obj} {c : V} {cv u : Value} {b : Bool}
    {Q : VK} (hK : IsK X.K) (T : IsC X.K C)
    (I : Inv X pins σ H s) (ho : s.heap.get? a = some oe) (hc : oe.cls = .ref C) (hn : PySem.W.notCls oe = true)
    (hd : DictAt H oe.dict) (k : ClsV c u) (r2 : RelV c cv) (e : PySem.W.kitOne X.K (.ref C) u = some b) (q : Q (.bl b) H) :
    wpAny (model X.prog X.w) X.A (call (.builtin "isinstance") [.ref a, cv]) (EP X pins σ Q) X.xe s := by
  have e2 := k.eq r2
  subst e2
  have hod : ∃ od, PySem.W.InstAt s.heap a oe C od := by
    obtain ⟨cls, dict, data, slots⟩ := oe
    cases dict with
    | none => exact ⟨none, ho, hc, hn, True.intro⟩
    | some dx =>
      obtain ⟨fs, hh⟩ := hd dx rfl
      have there : ∃ od, s.heap.get? dx = some od := by
        rcases hh with hh | hh
        · obtain ⟨mA, hns, _⟩ := exd_at I.hok hh
          obtain ⟨o, _, _, e', _⟩ := hns
          exact ⟨o, e'⟩
        · obtain ⟨mA, hns, _⟩ := (show ObjOk X.prog X.w H s.heap dx (.xd fs) from I.hok dx _ hh)
          obtain ⟨o, _, _, e', _⟩ := hns
          exact ⟨o, e'⟩
      obtain ⟨od, hd'⟩ := there
      exact ⟨some od, ho, hc, hn, hd'⟩
  obtain ⟨od, at0⟩ := hod
  obtain ⟨cd, hcd, _⟩ := T.ex.cd
  have Z := PySem.W.kitx_exc (x := a) (ox := oe) (od := od) (by rw [hcd]; rfl) T.ex.ga T.ex.gg T.ex.exC T.kc hK.gt hK.tk T.mo
  exact PySem.W.kia_one Z I.kIn at0 e (fun z => nomatch z) fun tk => ⟨.bl b, H, I.tok tk, rfl, q⟩
/-- isinstance(e, c), e an error that stands -/
def rIsE (K : PySem.W.Frag) : List V → Hp → VK → Prop := fun xs H Q => ∃ (a C : Addr) (d : Option Addr) (c : V) (u : Value) (b : Bool),
  xs = [.ref a, c] ∧ ClsV c u ∧ IsC K C ∧ H a = some (exo a C d) ∧ DictAt H d ∧ PySem.W.kitOne K (.ref C) u = some b ∧ Q (.bl b) H
theorem call_isE (hK : IsK X.K) : CallR X (.builtin "isinstance") (rIsE X.K) := by
  intro pins s σ H xs us Q I r h
  obtain ⟨a, C, d, c, u, b, rfl, k, T, ea, hd, e, q⟩ := h
  obtain ⟨u1, u2, rfl, r1, r2⟩ := vals2 r
  obtain rfl : u1 = Value.ref a := r1
  obtain ⟨t1, ho⟩ := exo_at I.hok ea
  exact isE hK T I ho rfl rfl hd k r2 e q
/-- isinstance(e, c), e the error that a suite holds -/
def rIsP (K : PySem.W.Frag) (p : Addr × Obj) : List V → Hp → VK → Prop := fun xs H Q => ∃ (C : Addr) (c : V) (u : Value) (b : Bool),
  xs = [.ref p.1, c] ∧ ClsV c u ∧ IsC K C ∧ p.2.cls = .ref C ∧ PySem.W.notCls p.2 = true ∧ DictAt H p.2.dict ∧
    PySem.W.kitOne K (.ref C) u = some b ∧ Q (.bl b) H
theorem call_isP {p : Addr × Obj} (hK : IsK X.K) (hp : p ∈ X.pn) : CallR X (.builtin "isinstance") (rIsP X.K p) := by
  intro pins s σ H xs us Q I r h
  obtain ⟨C, c, u, b, rfl, k, T, hc, hn, hd, e, q⟩ := h
  obtain ⟨u1, u2, rfl, r1, r2⟩ := vals2 r
  obtain rfl : u1 = Value.ref p.1 := r1
  exact isE hK T I (I.pin p (List.mem_append_left _ hp)).1 hc hn hd k r2 e q
end

/-! ### a def that is called while a suite holds an error -/
open L2H in
structure FnP (P : Program) (w : World) (K : PySem.W.Frag) (mg : Str → Option Value) (base : Heap) (k : Nat)
    (f : Addr) (fd : FuncData) (ps : List Str) (sp : Addr × Obj → Sp) : Prop where
  len : ∀ p zs G R Z, sp p zs G R Z → zs.length = ps.length
  run : ∀ (A : Around) (out : List Env) (t : Shared) (G : Hp) (ar : Args) (ws : List Value) (zs : List V)
    (R : VK) (p : Addr × Obj), RoomH k A → PinOk out G t p → (∃ vs, p.2.data = .fields vs) → Env0 P w K mg base A out t G →
    BindsTo t fd ar (ps.zip ws) → Vals zs ws → sp p zs G R E0 →
    codeAny (model P w) A (.call (.ref f) ar) (CR CX0 out P w G t R E0) t
section
variable {P : Program} {w : World} {K : PySem.W.Frag} {mg : Str → Option Value} {base : Heap}
open L2H in
theorem okP {x qual : Str} {st : Stmt} {f : Addr} {fd : FuncData} {N ps : List Str} {k : Nat} {sp : Addr × Obj → Sp}
    (F : Fun K x qual st f fd) (S : FnScope N ps (defScope st))
    (len : ∀ p zs G R Z, sp p zs G R Z → zs.length = ps.length)
    (body : ∀ (cv : Value) (A : Around) (out : List Env) (t : Shared) (G : Hp) (zs : List V) (R : VK) (p : Addr × Obj),
      RoomH k (A.deeper (envOfC qual (defScope st) t.heap.objs.size f cv)) → (∃ vs, p.2.data = .fields vs) → sp p zs G R E0 →
      ∃ b, PSs (cxH CX0 P w K mg base N qual (defScope st) f cv A out t G E0 p) (defBody st) b ∧
        b { nx := fun _ G' => R .non G', rt := R } (start N zs) G) :
    FnP P w K mg base (k + 1) f fd ps sp where
  len := len
  run := by
    obtain ⟨oc, od, kV, dc, pm, an, cv, ct, sl, rfl, lk, hcd⟩ := F.ex
    intro A out t G ar ws zs R p hr hpin hfd e0 hb r hsp
    have old : ∀ b o, base.get? b = some o → t.heap.get? b = some o := fun b o q => (e0.bs b o q).1
    have KX : K.In t.heap := e0.mod.kin.keeps old
    have lim : t.heap.NoLimit := e0.mod.nolimit.keeps old
    obtain ⟨b, hP, hB⟩ := body cv A out t G zs R p (hr.deeper _) hfd hsp
    have kinds : ∀ y ∈ ps.zip ws, (defScope st).names.lookup y.1 = some .local ∨
        ((defScope st).names.lookup y.1 = some .cell ∧ ((cellsFrom (t.heap.objs.size + 1) (defScope st).names []).lookup y.1).isSome = true) := by
      rintro ⟨n, v⟩ hy
      have hn : n ∈ ps := (List.of_mem_zip hy).1
      exact (S.par n hn).imp id fun q => ⟨q, PySem.W.cellsFrom_some _ _ _ (.inl q)⟩
    refine codeAny_call_function hr.depth (KX _ _ lk) rfl S.co S.gen rfl (PySem.W.codeRec_of KX hcd) (hb _ _ _ _ ?_)
    refine wpAny_newFunctionEnv_cells S.kind kinds ?_
    rintro env rfl s1 x
    refine ⟨lim.keeps x.toInCall.keep, codeAny_func ?_⟩
    have I0 := inv_startH (CX := CX0) (E := E0) S hpin e0 (len _ _ _ _ _ hsp) r x
    refine wpAny_mono (hP.run [] s1 (start N zs) G _ I0 hB) ?_ fun _ _ hz => hz
    intro fl s' hs
    cases fl with
    | ret u =>
      obtain ⟨v, _, G', J, rv, q⟩ := hs
      exact ⟨v, G', J.os, J.bare, J.base, J.hok, rv, q⟩
    | next =>
      obtain ⟨_, G', J, q⟩ := hs
      exact ⟨V.non, G', J.os, J.bare, J.base, J.hok, rfl, q⟩
    | brk => exact (hs.choose_spec.choose_spec.2 : False).elim
    | cont => exact (hs.choose_spec.choose_spec.2 : False).elim
end
section
variable {X : Cx} {k : Nat} {f : Addr} {fd : FuncData} {ps : List Str} {sp : Addr × Obj → Sp} {x : Str} {p pos : Pos} {e : Expr} {es : List Expr} {t : TA}
open L2H in
theorem pe_callP {pe : Addr × Obj} (F : FnP X.prog X.w X.K X.mg X.base k f fd ps sp) (hr : RoomH k X.A) (hp : pe ∈ X.pn) (hfd : ∃ vs, pe.2.data = .fields vs)
    (hg : Gl X x) (hm : X.mg x = some (.ref f)) (hk : PySem.W.keepIn X.K (.ref f) = true) (hb : L2.Binds X.K fd ps []) (ha : PA X (e :: es) t)
    (hdb : (x == ("__debug__" : Str)) = false := by decide)
    (he : starEach (e :: es) X.env = (false, eval e X.env) :: starEach es X.env := by rfl)
    (hpl : (backTo pos (starEach es X.env)).any (·.1) = false := by rfl) :
    PE X (.Call (.Name x p) (e :: es) [] pos) (tCall (sp pe) [] E0 t) where
  run := by
    intro pins s σ H Q I h
    apply wpAny_Call_Name_kw
    refine ld_glob I hg hm ?_ hdb
    refine PySem.W.callWith_K (h₀ := X.base) I.ok.mod.kin hk (thn (ha.run pos pins s σ H _ I h) ?_) he hpl
    rintro us s1 ⟨vs, H1, I1, r, q⟩
    refine ⟨I1.kIn, ?_⟩
    rw [List.append_nil] at q
    have hl : us.length = ps.length := by rw [← r.length]; exact F.len _ _ _ _ _ q
    have b := hb s1 us I1.kIn (by rw [List.append_nil]; exact hl)
    rw [List.append_nil] at b
    have P1 := I1.pin pe (List.mem_append_left _ hp)
    have hpin : PinOk X.stack H1 s1 pe := by
      refine ⟨P1.1, P1.2.1, ?_, P1.2.2.2.2⟩
      intro hm'
      exact (List.mem_cons.mp (I1.stkSub pe.1 hm')).elim P1.2.2.1 P1.2.2.2.1
    have main := F.run X.A X.stack s1 H1 ⟨us, []⟩ us vs Q pe hr hpin hfd I1.env0 b r q
    refine wpAny_call (codeAny_mono main ?_)
    intro r s' hh
    have z := back pass0 I1 r s' hh
    rcases r with bb | fl
    · exact z
    · cases fl <;> exact z
end
end Lay
namespace Lay
open PySem
/-- the statements in a class -/
def bodyOf (s : Stmt) : List Stmt := match s with | .ClassDef (body := inner) .. => inner | _ => []
end Lay
namespace Lay
open PySem PySem.Spec PyProof.Rows L2
theorem sameT {K : PySem.W.Frag} {F G : Hp} {a : Addr} {xs : List V} (e : Same F G) (h : SqT K F a xs) : SqT K G a xs := by
  rcases h with h | h
  · rcases h with h | ⟨o, h⟩
    · exact .inl (.inl (e _ _ h))
    · exact .inl (.inr ⟨o, e _ _ h⟩)
  · exact .inr h
mutual
theorem Dx.sub {K : PySem.W.Frag} {F G : Hp} (s : Same F G) : ∀ {v : V} {d : PyData}, Dx K F v d → Dx K G v d
  | _, _, .non => .non
  | _, _, .bl b => .bl b
  | _, _, .int i => .int i
  | _, _, .str x => .str x
  | _, _, .lst h a => .lst (s.seq h) (DxAll.sub s a)
  | _, _, .tup h a => .tup (sameT s h) (DxAll.sub s a)
  | _, _, .dct h e a => .dct (s _ _ h) e (DxAll.sub s a)
theorem DxAll.sub {K : PySem.W.Frag} {F G : Hp} (s : Same F G) : ∀ {vs : List V} {ds : List PyData}, DxAll K F vs ds → DxAll K G vs ds
  | _, _, .nil => .nil
  | _, _, .cons h r => .cons (Dx.sub s h) (DxAll.sub s r)
end
theorem DxAll.snoc {K : PySem.W.Frag} {F : Hp} {v : V} {d : PyData} (h : Dx K F v d) : ∀ {vs : List V} {ds : List PyData}, DxAll K F vs ds → DxAll K F (vs ++ [v]) (ds ++ [d])
  | _, _, .nil => .cons h .nil
  | _, _, .cons a r => .cons a (r.snoc h)
theorem DxAll.len {K : PySem.W.Frag} {F : Hp} : ∀ {vs : List V} {ds : List PyData}, DxAll K F vs ds → vs.length = ds.length
  | _, _, .nil => rfl
  | _, _, .cons a r => by simp [r.len]
/-- what is new in H' -/
def new (H H' : Hp) : Hp := fun b => if H b = none then H' b else none
theorem new_sub (H H' : Hp) : Same (new H H') H' := by
  intro b o e
  unfold new at e
  split at e
  · exact e
  · cases e
theorem text_le : ∀ (ts : List Str) (k : Nat) (acc : Str), (textFrom k acc ts).length ≤ acc.length + piled ts
  | [], k, acc => by simp [textFrom, piled_nil]
  | t :: r, k, acc => by
    have ih := text_le r (k + 1) (acc ++ (if k > 0 then ", " else "" : String) ++ t)
    have e : (acc ++ (if k > 0 then ", " else "" : String) ++ t).length ≤ acc.length + 2 + t.length := by
      rw [strLen_append, strLen_append]
      split
      · exact Nat.le_refl _
      · show acc.length + 0 + t.length ≤ _
        omega
    rw [piled_cons]
    show (textFrom (k + 1) _ r).length ≤ _
    omega
theorem list_le (ts : List Str) : (listText ts).length ≤ piled ts + 2 := by
  unfold listText
  rw [strLen_append]
  have := text_le ts 0 "["
  have e : ("[" : Str).length = 1 := by decide +kernel
  have e2 : ("]" : Str).length = 1 := by decide +kernel
  omega
theorem join_le (ts : List Str) : (Str.join ", " ts).length ≤ piled ts := by
  cases ts with
  | nil => exact Nat.le_of_eq (by decide +kernel)
  | cons a r =>
    have := join_length_add (a :: r) (by simp)
    omega
theorem tuple_le (ts : List Str) : (tupleText ts).length ≤ piled ts + 3 := by
  unfold tupleText
  rw [strLen_append, strLen_append]
  have := join_le ts
  have e : ("(" : Str).length = 1 := by decide +kernel
  have e2 : (((if ts.length == 1 then ",)" else ")" : String)) : Str).length ≤ 2 := by
    split
    · exact Nat.le_of_eq (by decide +kernel)
    · exact Nat.le_trans (Nat.le_of_eq (show (")" : Str).length = 1 by decide +kernel)) (by decide)
  omega
theorem dict_le (ts : List Str) : (dictText ts).length ≤ piled ts + 2 := by
  unfold dictText
  rw [strLen_append, strLen_append]
  have := join_le ts
  have e : ("{" : Str).length = 1 := by decide +kernel
  have e2 : ("}" : Str).length = 1 := by decide +kernel
  omega
/-- data that is small: it can be told -/
structure Sm (n b : Nat) (d : PyData) : Prop where
  sh : d.showable = true
  dp : d.depth ≤ n
  ln : d.shown.length ≤ b
theorem Sm.all {n b : Nat} : ∀ {ds : List PyData}, (∀ d ∈ ds, Sm n b d) →
    PyData.showableAll ds = true ∧ PyData.depthAll ds ≤ n ∧ piled (PyData.shownAll ds) ≤ ds.length * (b + 2)
  | [], _ => ⟨by simp [PyData.showableAll], by simp [PyData.depthAll], by simp [PyData.shownAll, piled_nil]⟩
  | d :: r, h => by
    obtain ⟨a1, a2, a3⟩ := Sm.all (ds := r) (fun x hx => h x (List.mem_cons_of_mem _ hx))
    obtain ⟨h1, h2, h3⟩ := h d (List.mem_cons_self ..)
    refine ⟨by simp [PyData.showableAll, h1, a1], by simp only [PyData.depthAll]; omega, ?_⟩
    simp only [PyData.shownAll, piled_cons, List.length_cons]
    rw [Nat.add_mul]
    omega
theorem Sm.list {n b m c : Nat} {ds : List PyData} (h : ∀ d ∈ ds, Sm n b d) (hm : ds.length ≤ m) (hc : m * (b + 2) + 2 ≤ c) : Sm (n + 1) c (.list ds) := by
  obtain ⟨a1, a2, a3⟩ := Sm.all h
  have := list_le (PyData.shownAll ds)
  have := Nat.mul_le_mul_right (b + 2) hm
  refine ⟨by simp [PyData.showable, a1], by simp only [PyData.depth]; omega, ?_⟩
  simp only [PyData.shown]
  omega
theorem Sm.tuple {n b m c : Nat} {ds : List PyData} (h : ∀ d ∈ ds, Sm n b d) (hm : ds.length ≤ m) (hc : m * (b + 2) + 3 ≤ c) : Sm (n + 1) c (.tuple ds) := by
  obtain ⟨a1, a2, a3⟩ := Sm.all h
  have := tuple_le (PyData.shownAll ds)
  have := Nat.mul_le_mul_right (b + 2) hm
  refine ⟨by simp [PyData.showable, a1], by simp only [PyData.depth]; omega, ?_⟩
  simp only [PyData.shown]
  omega
theorem Sm.mono {n b n' b' : Nat} {d : PyData} (h : Sm n b d) (hn : n ≤ n') (hb : b ≤ b') : Sm n' b' d := ⟨h.sh, Nat.le_trans h.dp hn, Nat.le_trans h.ln hb⟩
/-- {k: x, i: None} -/
theorem Sm.dict {n b c : Nat} {x : PyData} {k i : PyData} (h : Sm n b x) (hk : Sm 0 3 k) (hi : Sm 0 3 i) (hc : b + 30 ≤ c) : Sm (n + 1) c (.dict [(k, x), (i, .none)]) := by
  obtain ⟨h1, h2, h3⟩ := h
  obtain ⟨k1, k2, k3⟩ := hk
  obtain ⟨i1, i2, i3⟩ := hi
  refine ⟨by simp [PyData.showable, PyData.showableKv, h1, k1, i1], ?_, ?_⟩
  · simp only [PyData.depth, PyData.depthKv]
    omega
  · simp only [PyData.shown, PyData.shownKv]
    have := dict_le [k.shown ++ ": " ++ x.shown, i.shown ++ ": " ++ ("None" : Str)]
    simp only [piled_cons, piled_nil, strLen_append] at this
    have e1 : (": " : Str).length = 2 := by decide +kernel
    have e2 : ("None" : Str).length = 4 := by decide +kernel
    omega
end Lay
namespace C01
open PySem PySem.Spec PyProof.Rows L2 Lay
def topS (i : Nat) : Stmt := PySem.Challenge.pw_heldparts_k01_error_classes.main.body.getD i (.Pass ⟨0, 0, 0, 0⟩)
abbrev s_NoStore_init : Stmt := (bodyOf (topS 2)).getD 0 (.Pass ⟨0, 0, 0, 0⟩)
abbrev N_NoStore_init : List Str := ["self", "word"]
theorem sc_NoStore_init : FnScope N_NoStore_init ["self", "word"] (defScope s_NoStore_init) := ⟨rfl, rfl, rfl, by decide +kernel, rfl, by decide +kernel, by decide +kernel⟩
abbrev s_Ring_init : Stmt := (bodyOf (topS 3)).getD 0 (.Pass ⟨0, 0, 0, 0⟩)
abbrev N_Ring_init : List Str := ["self", "names"]
theorem sc_Ring_init : FnScope N_Ring_init ["self", "names"] (defScope s_Ring_init) := ⟨rfl, rfl, rfl, by decide +kernel, rfl, by decide +kernel, by decide +kernel⟩
abbrev s_NoLot_init : Stmt := (bodyOf (topS 4)).getD 0 (.Pass ⟨0, 0, 0, 0⟩)
abbrev N_NoLot_init : List Str := ["self", "names"]
theorem sc_NoLot_init : FnScope N_NoLot_init ["self", "names"] (defScope s_NoLot_init) := ⟨rfl, rfl, rfl, by decide +kernel, rfl, by decide +kernel, by decide +kernel⟩
abbrev s_NoEdit_init : Stmt := (bodyOf (topS 5)).getD 0 (.Pass ⟨0, 0, 0, 0⟩)
abbrev N_NoEdit_init : List Str := ["self", "word"]
theorem sc_NoEdit_init : FnScope N_NoEdit_init ["self", "word"] (defScope s_NoEdit_init) := ⟨rfl, rfl, rfl, by decide +kernel, rfl, by decide +kernel, by decide +kernel⟩
abbrev s_Noticed_init : Stmt := (bodyOf (topS 6)).getD 0 (.Pass ⟨0, 0, 0, 0⟩)
abbrev N_Noticed_init : List Str := ["self", "stranger"]
theorem sc_Noticed_init : FnScope N_Noticed_init ["self", "stranger"] (defScope s_Noticed_init) := ⟨rfl, rfl, rfl, by decide +kernel, rfl, by decide +kernel, by decide +kernel⟩
abbrev s_NoContext_init : Stmt := (bodyOf (topS 7)).getD 0 (.Pass ⟨0, 0, 0, 0⟩)
abbrev N_NoContext_init : List Str := ["self", "word"]
theorem sc_NoContext_init : FnScope N_NoContext_init ["self", "word"] (defScope s_NoContext_init) := ⟨rfl, rfl, rfl, by decide +kernel, rfl, by decide +kernel, by decide +kernel⟩
abbrev s_NoModule_init : Stmt := (bodyOf (topS 8)).getD 0 (.Pass ⟨0, 0, 0, 0⟩)
abbrev N_NoModule_init : List Str := ["self", "part"]
theorem sc_NoModule_init : FnScope N_NoModule_init ["self", "part"] (defScope s_NoModule_init) := ⟨rfl, rfl, rfl, by decide +kernel, rfl, by decide +kernel, by decide +kernel⟩
abbrev s_NoWrite_init : Stmt := (bodyOf (topS 9)).getD 0 (.Pass ⟨0, 0, 0, 0⟩)
abbrev N_NoWrite_init : List Str := ["self", "names"]
theorem sc_NoWrite_init : FnScope N_NoWrite_init ["self", "names"] (defScope s_NoWrite_init) := ⟨rfl, rfl, rfl, by decide +kernel, rfl, by decide +kernel, by decide +kernel⟩
abbrev s_NotHeld_init : Stmt := (bodyOf (topS 10)).getD 0 (.Pass ⟨0, 0, 0, 0⟩)
abbrev N_NotHeld_init : List Str := ["self", "handle"]
theorem sc_NotHeld_init : FnScope N_NotHeld_init ["self", "handle"] (defScope s_NotHeld_init) := ⟨rfl, rfl, rfl, by decide +kernel, rfl, by decide +kernel, by decide +kernel⟩
abbrev s_TooMany_init : Stmt := (bodyOf (topS 11)).getD 0 (.Pass ⟨0, 0, 0, 0⟩)
abbrev N_TooMany_init : List Str := ["self", "limit"]
theorem sc_TooMany_init : FnScope N_TooMany_init ["self", "limit"] (defScope s_TooMany_init) := ⟨rfl, rfl, rfl, by decide +kernel, rfl, by decide +kernel, by decide +kernel⟩
abbrev s_law_feed : Stmt := topS 16
abbrev N_law_feed : List Str := ["_law_script", "_law_mixed_here", "_law_cell"]
theorem sc_law_feed : FnScope N_law_feed ["_law_script"] (defScope s_law_feed) := ⟨rfl, rfl, rfl, by decide +kernel, rfl, by decide +kernel, by decide +kernel⟩
abbrev s_law_take : Stmt := topS 17
abbrev N_law_take : List Str := ["_law_feed_here", "_law_many", "_law_number", "_law_cell"]
theorem sc_law_take : FnScope N_law_take ["_law_feed_here", "_law_many"] (defScope s_law_take) := ⟨rfl, rfl, rfl, by decide +kernel, rfl, by decide +kernel, by decide +kernel⟩
abbrev s_law_one : Stmt := topS 18
abbrev N_law_one : List Str := ["_law_feed_here", "_law_some"]
theorem sc_law_one : FnScope N_law_one ["_law_feed_here", "_law_some"] (defScope s_law_one) := ⟨rfl, rfl, rfl, by decide +kernel, rfl, by decide +kernel, by decide +kernel⟩
abbrev s_law_mixed : Stmt := topS 19
abbrev N_law_mixed : List Str := ["_law_feed_here", "_law_some", "_law_left", "_law_k"]
theorem sc_law_mixed : FnScope N_law_mixed ["_law_feed_here", "_law_some"] (defScope s_law_mixed) := ⟨rfl, rfl, rfl, by decide +kernel, rfl, by decide +kernel, by decide +kernel⟩
abbrev s_law_thing : Stmt := topS 20
abbrev N_law_thing : List Str := ["_law_feed_here", "_law_deep", "_law_way", "_law_some", "_law_k"]
theorem sc_law_thing : FnScope N_law_thing ["_law_feed_here", "_law_deep"] (defScope s_law_thing) := ⟨rfl, rfl, rfl, by decide +kernel, rfl, by decide +kernel, by decide +kernel⟩
abbrev s_law_kinds : Stmt := topS 21
abbrev N_law_kinds : List Str := ["_law_e", "_law_some"]
theorem sc_law_kinds : FnScope N_law_kinds ["_law_e"] (defScope s_law_kinds) := ⟨rfl, rfl, rfl, by decide +kernel, rfl, by decide +kernel, by decide +kernel⟩
abbrev s_law_due : Stmt := topS 22
abbrev N_law_due : List Str := ["_law_which", "_law_own", "_law_k"]
theorem sc_law_due : FnScope N_law_due ["_law_which"] (defScope s_law_due) := ⟨rfl, rfl, rfl, by decide +kernel, rfl, by decide +kernel, by decide +kernel⟩
abbrev s_law_made : Stmt := topS 23
abbrev N_law_made : List Str := ["_law_which", "_law_thing_here", "_law_e"]
theorem sc_law_made : FnScope N_law_made ["_law_which", "_law_thing_here"] (defScope s_law_made) := ⟨rfl, rfl, rfl, by decide +kernel, rfl, by decide +kernel, by decide +kernel⟩
abbrev s_law_by_name : Stmt := topS 24
abbrev N_law_by_name : List Str := ["_law_thing_here", "_law_found"]
theorem sc_law_by_name : FnScope N_law_by_name ["_law_thing_here"] (defScope s_law_by_name) := ⟨rfl, rfl, rfl, by decide +kernel, rfl, by decide +kernel, by decide +kernel⟩
abbrev s_law_raised : Stmt := topS 25
abbrev N_law_raised : List Str := ["_law_which", "_law_thing_here", "_law_kinds_here", "_law_e"]
theorem sc_law_raised : FnScope N_law_raised ["_law_which", "_law_thing_here"] (defScope s_law_raised) := ⟨rfl, rfl, rfl, by decide +kernel, rfl, by decide +kernel, by decide +kernel⟩
abbrev s_law_right : Stmt := topS 26
abbrev N_law_right : List Str := ["_law_which", "_law_thing_here", "_law_kept", "_law_due_here", "_law_e", "_law_held_by"]
theorem sc_law_right : FnScope N_law_right ["_law_which", "_law_thing_here"] (defScope s_law_right) := ⟨rfl, rfl, rfl, by decide +kernel, rfl, by decide +kernel, by decide +kernel⟩
abbrev s_law : Stmt := topS 27
abbrev N_law : List Str := ["_law_script", "_law_feed_here", "_law_turn", "_law_which", "_law_thing_here", "_law_due_here"]
theorem sc_law : FnScope N_law ["_law_script"] (defScope s_law) := ⟨rfl, rfl, rfl, by decide +kernel, rfl, by decide +kernel, by decide +kernel⟩
section
variable {P : Program} {w : World} {K : PySem.W.Frag} {mg : Str → Option Value} {base : Heap}
/-- __init__ of a class: the fields of the error -/
def spIni (C : Addr) (fs : V → List (Str × V)) : Sp := fun vs H Q _ => ∃ (a : Addr) (v : V), vs = [.ref a, v] ∧ H a = some (exo a C none) ∧
  ∀ (H' : Hp) (dx : Addr), H dx = none → dx ≠ a → H' a = some (exo a C (some dx)) → H' dx = some (exd dx (fs v)) →
    (∀ b, b ≠ a → b ≠ dx → H' b = H b) → Q .non H'
theorem mk_spIni {C : Addr} {fs : V → List (Str × V)} {a : Addr} {v : V} {H1 : Hp} {G : Addr → Hp → Prop} (ha : H1 a = none)
    (h : ∀ H' dx, H1 dx = none → dx ≠ a → H' a = some (exo a C (some dx)) → H' dx = some (exd dx (fs v)) → Same H1 H' →
      (∀ b, b ≠ a → b ≠ dx → H' b = H1 b) → G a H') :
    spIni C fs [.ref a, v] (upd H1 a (exo a C none)) (fun v H2 => v = .non ∧ G a H2) E0 := by
  refine ⟨a, v, rfl, upd_same, ?_⟩
  intro H' dx hdx ne h1 h2 h3
  rw [upd_ne ne] at hdx
  have h4 : ∀ b, b ≠ a → b ≠ dx → H' b = H1 b := by
    intro b x y
    rw [h3 b x y, upd_ne x]
  refine ⟨rfl, h H' dx hdx ne h1 h2 ?_ h4⟩
  intro b o e
  rw [h4 b (ne_of_none e ha) (ne_of_none e hdx)]
  exact e

theorem ok_NoStore_init {f C : Addr} {fd : FuncData} (F : Fun K "__init__" "NoStore.__init__" s_NoStore_init f fd) (T : ExC K C)
    (n1 : PySem.W.findIn K (.ref C) "word" = some none) :
    FnG P w K mg base CX0 1 f fd ["self", "word"] (spIni C fun v => [("word", v)]) := by
  refine okG F sc_NoStore_init (fun vs H Q E h => ?_) (fun cdv A outer s H vs Q E hr hq h => ?_)
  · obtain ⟨a, v, rfl, _⟩ := h
    rfl
  · obtain ⟨a, v, rfl, ea, k⟩ := h
    have nd := sc_NoStore_init.nd
    refine ⟨_, (pss_one (ps_xst (pv 0) (pv 1))), ?_⟩
    simp (maxSteps := 10000000) only [tSeq, tAsg, gName, tVar, tC, tOp, tUn, tNil, tCons, tCall, tCB, tBM, tBM0, tSl, tNoPart, tPart, tRet, tRetN, tIf, tIfS, tB, tTest, tDrop, tNext, tTup, tLst, tAnd, tOr, tNot, tNotV, tYes, tIsN, tNotN, rI, rI0, rU, rEq, rNe, rPop, rAppend, rCat, rSetL, rIxL, rIxS, rSlL, tRevL, tFor_eq, tWhile_eq, tLc_eq, iList, iTup, iRng1, iRng2, iStr, iZip, gTup, gCons, gNil, gSub, L2.start, Lay.cx_K, CDiv, CDivN, CPow, List.map_cons, List.map_nil, List.length_cons, List.length_nil, List.replicate_succ, List.replicate_zero, List.cons_append, List.nil_append, List.append_nil, List.set_cons_zero, List.set_cons_succ, List.getElem?_cons_zero, List.getElem?_cons_succ, Option.some.injEq, exists_eq_left', V.int.injEq, V.str.injEq, V.ref.injEq, V.bl.injEq, List.cons.injEq, and_true, true_and, exists_and_left, exists_eq_left, exists_eq, and_assoc, Nat.reduceAdd, Nat.reduceSub, Nat.zero_add, exists_and_right, exists_const, L2.wipe, if_true, if_false, tBits, rLenK, rCopyK, rTupleK, tXst, tXf, tMkX, tMk0, N_NoStore_init]
    refine ⟨C, T, n1, .inl ⟨ea, fun dx hdx ne => ?_⟩⟩
    refine k _ dx hdx ne upd_same ?_ ?_
    · rw [upd_ne ne, upd_same]
    · intro b x y
      rw [upd_ne x, upd_ne y]

theorem ok_NoLot_init {f C : Addr} {fd : FuncData} (F : Fun K "__init__" "NoLot.__init__" s_NoLot_init f fd) (T : ExC K C)
    (n1 : PySem.W.findIn K (.ref C) "names" = some none) :
    FnG P w K mg base CX0 1 f fd ["self", "names"] (spIni C fun v => [("names", v)]) := by
  refine okG F sc_NoLot_init (fun vs H Q E h => ?_) (fun cdv A outer s H vs Q E hr hq h => ?_)
  · obtain ⟨a, v, rfl, _⟩ := h
    rfl
  · obtain ⟨a, v, rfl, ea, k⟩ := h
    have nd := sc_NoLot_init.nd
    refine ⟨_, (pss_one (ps_xst (pv 0) (pv 1))), ?_⟩
    simp (maxSteps := 10000000) only [tSeq, tAsg, gName, tVar, tC, tOp, tUn, tNil, tCons, tCall, tCB, tBM, tBM0, tSl, tNoPart, tPart, tRet, tRetN, tIf, tIfS, tB, tTest, tDrop, tNext, tTup, tLst, tAnd, tOr, tNot, tNotV, tYes, tIsN, tNotN, rI, rI0, rU, rEq, rNe, rPop, rAppend, rCat, rSetL, rIxL, rIxS, rSlL, tRevL, tFor_eq, tWhile_eq, tLc_eq, iList, iTup, iRng1, iRng2, iStr, iZip, gTup, gCons, gNil, gSub, L2.start, Lay.cx_K, CDiv, CDivN, CPow, List.map_cons, List.map_nil, List.length_cons, List.length_nil, List.replicate_succ, List.replicate_zero, List.cons_append, List.nil_append, List.append_nil, List.set_cons_zero, List.set_cons_succ, List.getElem?_cons_zero, List.getElem?_cons_succ, Option.some.injEq, exists_eq_left', V.int.injEq, V.str.injEq, V.ref.injEq, V.bl.injEq, List.cons.injEq, and_true, true_and, exists_and_left, exists_eq_left, exists_eq, and_assoc, Nat.reduceAdd, Nat.reduceSub, Nat.zero_add, exists_and_right, exists_const, L2.wipe, if_true, if_false, tBits, rLenK, rCopyK, rTupleK, tXst, tXf, tMkX, tMk0, N_NoLot_init]
    refine ⟨C, T, n1, .inl ⟨ea, fun dx hdx ne => ?_⟩⟩
    refine k _ dx hdx ne upd_same ?_ ?_
    · rw [upd_ne ne, upd_same]
    · intro b x y
      rw [upd_ne x, upd_ne y]

theorem ok_NoEdit_init {f C : Addr} {fd : FuncData} (F : Fun K "__init__" "NoEdit.__init__" s_NoEdit_init f fd) (T : ExC K C)
    (n1 : PySem.W.findIn K (.ref C) "word" = some none) :
    FnG P w K mg base CX0 1 f fd ["self", "word"] (spIni C fun v => [("word", v)]) := by
  refine okG F sc_NoEdit_init (fun vs H Q E h => ?_) (fun cdv A outer s H vs Q E hr hq h => ?_)
  · obtain ⟨a, v, rfl, _⟩ := h
    rfl
  · obtain ⟨a, v, rfl, ea, k⟩ := h
    have nd := sc_NoEdit_init.nd
    refine ⟨_, (pss_one (ps_xst (pv 0) (pv 1))), ?_⟩
    simp (maxSteps := 10000000) only [tSeq, tAsg, gName, tVar, tC, tOp, tUn, tNil, tCons, tCall, tCB, tBM, tBM0, tSl, tNoPart, tPart, tRet, tRetN, tIf, tIfS, tB, tTest, tDrop, tNext, tTup, tLst, tAnd, tOr, tNot, tNotV, tYes, tIsN, tNotN, rI, rI0, rU, rEq, rNe, rPop, rAppend, rCat, rSetL, rIxL, rIxS, rSlL, tRevL, tFor_eq, tWhile_eq, tLc_eq, iList, iTup, iRng1, iRng2, iStr, iZip, gTup, gCons, gNil, gSub, L2.start, Lay.cx_K, CDiv, CDivN, CPow, List.map_cons, List.map_nil, List.length_cons, List.length_nil, List.replicate_succ, List.replicate_zero, List.cons_append, List.nil_append, List.append_nil, List.set_cons_zero, List.set_cons_succ, List.getElem?_cons_zero, List.getElem?_cons_succ, Option.some.injEq, exists_eq_left', V.int.injEq, V.str.injEq, V.ref.injEq, V.bl.injEq, List.cons.injEq, and_true, true_and, exists_and_left, exists_eq_left, exists_eq, and_assoc, Nat.reduceAdd, Nat.reduceSub, Nat.zero_add, exists_and_right, exists_const, L2.wipe, if_true, if_false, tBits, rLenK, rCopyK, rTupleK, tXst, tXf, tMkX, tMk0, N_NoEdit_init]
    refine ⟨C, T, n1, .inl ⟨ea, fun dx hdx ne => ?_⟩⟩
    refine k _ dx hdx ne upd_same ?_ ?_
    · rw [upd_ne ne, upd_same]
    · intro b x y
      rw [upd_ne x, upd_ne y]

theorem ok_NoContext_init {f C : Addr} {fd : FuncData} (F : Fun K "__init__" "NoContext.__init__" s_NoContext_init f fd) (T : ExC K C)
    (n1 : PySem.W.findIn K (.ref C) "word" = some none) :
    FnG P w K mg base CX0 1 f fd ["self", "word"] (spIni C fun v => [("word", v)]) := by
  refine okG F sc_NoContext_init (fun vs H Q E h => ?_) (fun cdv A outer s H vs Q E hr hq h => ?_)
  · obtain ⟨a, v, rfl, _⟩ := h
    rfl
  · obtain ⟨a, v, rfl, ea, k⟩ := h
    have nd := sc_NoContext_init.nd
    refine ⟨_, (pss_one (ps_xst (pv 0) (pv 1))), ?_⟩
    simp (maxSteps := 10000000) only [tSeq, tAsg, gName, tVar, tC, tOp, tUn, tNil, tCons, tCall, tCB, tBM, tBM0, tSl, tNoPart, tPart, tRet, tRetN, tIf, tIfS, tB, tTest, tDrop, tNext, tTup, tLst, tAnd, tOr, tNot, tNotV, tYes, tIsN, tNotN, rI, rI0, rU, rEq, rNe, rPop, rAppend, rCat, rSetL, rIxL, rIxS, rSlL, tRevL, tFor_eq, tWhile_eq, tLc_eq, iList, iTup, iRng1, iRng2, iStr, iZip, gTup, gCons, gNil, gSub, L2.start, Lay.cx_K, CDiv, CDivN, CPow, List.map_cons, List.map_nil, List.length_cons, List.length_nil, List.replicate_succ, List.replicate_zero, List.cons_append, List.nil_append, List.append_nil, List.set_cons_zero, List.set_cons_succ, List.getElem?_cons_zero, List.getElem?_cons_succ, Option.some.injEq, exists_eq_left', V.int.injEq, V.str.injEq, V.ref.injEq, V.bl.injEq, List.cons.injEq, and_true, true_and, exists_and_left, exists_eq_left, exists_eq, and_assoc, Nat.reduceAdd, Nat.reduceSub, Nat.zero_add, exists_and_right, exists_const, L2.wipe, if_true, if_false, tBits, rLenK, rCopyK, rTupleK, tXst, tXf, tMkX, tMk0, N_NoContext_init]
    refine ⟨C, T, n1, .inl ⟨ea, fun dx hdx ne => ?_⟩⟩
    refine k _ dx hdx ne upd_same ?_ ?_
    · rw [upd_ne ne, upd_same]
    · intro b x y
      rw [upd_ne x, upd_ne y]

theorem ok_NoModule_init {f C : Addr} {fd : FuncData} (F : Fun K "__init__" "NoModule.__init__" s_NoModule_init f fd) (T : ExC K C)
    (n1 : PySem.W.findIn K (.ref C) "part" = some none) :
    FnG P w K mg base CX0 1 f fd ["self", "part"] (spIni C fun v => [("part", v)]) := by
  refine okG F sc_NoModule_init (fun vs H Q E h => ?_) (fun cdv A outer s H vs Q E hr hq h => ?_)
  · obtain ⟨a, v, rfl, _⟩ := h
    rfl
  · obtain ⟨a, v, rfl, ea, k⟩ := h
    have nd := sc_NoModule_init.nd
    refine ⟨_, (pss_one (ps_xst (pv 0) (pv 1))), ?_⟩
    simp (maxSteps := 10000000) only [tSeq, tAsg, gName, tVar, tC, tOp, tUn, tNil, tCons, tCall, tCB, tBM, tBM0, tSl, tNoPart, tPart, tRet, tRetN, tIf, tIfS, tB, tTest, tDrop, tNext, tTup, tLst, tAnd, tOr, tNot, tNotV, tYes, tIsN, tNotN, rI, rI0, rU, rEq, rNe, rPop, rAppend, rCat, rSetL, rIxL, rIxS, rSlL, tRevL, tFor_eq, tWhile_eq, tLc_eq, iList, iTup, iRng1, iRng2, iStr, iZip, gTup, gCons, gNil, gSub, L2.start, Lay.cx_K, CDiv, CDivN, CPow, List.map_cons, List.map_nil, List.length_cons, List.length_nil, List.replicate_succ, List.replicate_zero, List.cons_append, List.nil_append, List.append_nil, List.set_cons_zero, List.set_cons_succ, List.getElem?_cons_zero, List.getElem?_cons_succ, Option.some.injEq, exists_eq_left', V.int.injEq, V.str.injEq, V.ref.injEq, V.bl.injEq, List.cons.injEq, and_true, true_and, exists_and_left, exists_eq_left, exists_eq, and_assoc, Nat.reduceAdd, Nat.reduceSub, Nat.zero_add, exists_and_right, exists_const, L2.wipe, if_true, if_false, tBits, rLenK, rCopyK, rTupleK, tXst, tXf, tMkX, tMk0, N_NoModule_init]
    refine ⟨C, T, n1, .inl ⟨ea, fun dx hdx ne => ?_⟩⟩
    refine k _ dx hdx ne upd_same ?_ ?_
    · rw [upd_ne ne, upd_same]
    · intro b x y
      rw [upd_ne x, upd_ne y]

theorem ok_NoWrite_init {f C : Addr} {fd : FuncData} (F : Fun K "__init__" "NoWrite.__init__" s_NoWrite_init f fd) (T : ExC K C)
    (n1 : PySem.W.findIn K (.ref C) "names" = some none) :
    FnG P w K mg base CX0 1 f fd ["self", "names"] (spIni C fun v => [("names", v)]) := by
  refine okG F sc_NoWrite_init (fun vs H Q E h => ?_) (fun cdv A outer s H vs Q E hr hq h => ?_)
  · obtain ⟨a, v, rfl, _⟩ := h
    rfl
  · obtain ⟨a, v, rfl, ea, k⟩ := h
    have nd := sc_NoWrite_init.nd
    refine ⟨_, (pss_one (ps_xst (pv 0) (pv 1))), ?_⟩
    simp (maxSteps := 10000000) only [tSeq, tAsg, gName, tVar, tC, tOp, tUn, tNil, tCons, tCall, tCB, tBM, tBM0, tSl, tNoPart, tPart, tRet, tRetN, tIf, tIfS, tB, tTest, tDrop, tNext, tTup, tLst, tAnd, tOr, tNot, tNotV, tYes, tIsN, tNotN, rI, rI0, rU, rEq, rNe, rPop, rAppend, rCat, rSetL, rIxL, rIxS, rSlL, tRevL, tFor_eq, tWhile_eq, tLc_eq, iList, iTup, iRng1, iRng2, iStr, iZip, gTup, gCons, gNil, gSub, L2.start, Lay.cx_K, CDiv, CDivN, CPow, List.map_cons, List.map_nil, List.length_cons, List.length_nil, List.replicate_succ, List.replicate_zero, List.cons_append, List.nil_append, List.append_nil, List.set_cons_zero, List.set_cons_succ, List.getElem?_cons_zero, List.getElem?_cons_succ, Option.some.injEq, exists_eq_left', V.int.injEq, V.str.injEq, V.ref.injEq, V.bl.injEq, List.cons.injEq, and_true, true_and, exists_and_left, exists_eq_left, exists_eq, and_assoc, Nat.reduceAdd, Nat.reduceSub, Nat.zero_add, exists_and_right, exists_const, L2.wipe, if_true, if_false, tBits, rLenK, rCopyK, rTupleK, tXst, tXf, tMkX, tMk0, N_NoWrite_init]
    refine ⟨C, T, n1, .inl ⟨ea, fun dx hdx ne => ?_⟩⟩
    refine k _ dx hdx ne upd_same ?_ ?_
    · rw [upd_ne ne, upd_same]
    · intro b x y
      rw [upd_ne x, upd_ne y]

theorem ok_NotHeld_init {f C : Addr} {fd : FuncData} (F : Fun K "__init__" "NotHeld.__init__" s_NotHeld_init f fd) (T : ExC K C)
    (n1 : PySem.W.findIn K (.ref C) "handle" = some none) :
    FnG P w K mg base CX0 1 f fd ["self", "handle"] (spIni C fun v => [("handle", v)]) := by
  refine okG F sc_NotHeld_init (fun vs H Q E h => ?_) (fun cdv A outer s H vs Q E hr hq h => ?_)
  · obtain ⟨a, v, rfl, _⟩ := h
    rfl
  · obtain ⟨a, v, rfl, ea, k⟩ := h
    have nd := sc_NotHeld_init.nd
    refine ⟨_, (pss_one (ps_xst (pv 0) (pv 1))), ?_⟩
    simp (maxSteps := 10000000) only [tSeq, tAsg, gName, tVar, tC, tOp, tUn, tNil, tCons, tCall, tCB, tBM, tBM0, tSl, tNoPart, tPart, tRet, tRetN, tIf, tIfS, tB, tTest, tDrop, tNext, tTup, tLst, tAnd, tOr, tNot, tNotV, tYes, tIsN, tNotN, rI, rI0, rU, rEq, rNe, rPop, rAppend, rCat, rSetL, rIxL, rIxS, rSlL, tRevL, tFor_eq, tWhile_eq, tLc_eq, iList, iTup, iRng1, iRng2, iStr, iZip, gTup, gCons, gNil, gSub, L2.start, Lay.cx_K, CDiv, CDivN, CPow, List.map_cons, List.map_nil, List.length_cons, List.length_nil, List.replicate_succ, List.replicate_zero, List.cons_append, List.nil_append, List.append_nil, List.set_cons_zero, List.set_cons_succ, List.getElem?_cons_zero, List.getElem?_cons_succ, Option.some.injEq, exists_eq_left', V.int.injEq, V.str.injEq, V.ref.injEq, V.bl.injEq, List.cons.injEq, and_true, true_and, exists_and_left, exists_eq_left, exists_eq, and_assoc, Nat.reduceAdd, Nat.reduceSub, Nat.zero_add, exists_and_right, exists_const, L2.wipe, if_true, if_false, tBits, rLenK, rCopyK, rTupleK, tXst, tXf, tMkX, tMk0, N_NotHeld_init]
    refine ⟨C, T, n1, .inl ⟨ea, fun dx hdx ne => ?_⟩⟩
    refine k _ dx hdx ne upd_same ?_ ?_
    · rw [upd_ne ne, upd_same]
    · intro b x y
      rw [upd_ne x, upd_ne y]

theorem ok_TooMany_init {f C : Addr} {fd : FuncData} (F : Fun K "__init__" "TooMany.__init__" s_TooMany_init f fd) (T : ExC K C)
    (n1 : PySem.W.findIn K (.ref C) "limit" = some none) :
    FnG P w K mg base CX0 1 f fd ["self", "limit"] (spIni C fun v => [("limit", v)]) := by
  refine okG F sc_TooMany_init (fun vs H Q E h => ?_) (fun cdv A outer s H vs Q E hr hq h => ?_)
  · obtain ⟨a, v, rfl, _⟩ := h
    rfl
  · obtain ⟨a, v, rfl, ea, k⟩ := h
    have nd := sc_TooMany_init.nd
    refine ⟨_, (pss_one (ps_xst (pv 0) (pv 1))), ?_⟩
    simp (maxSteps := 10000000) only [tSeq, tAsg, gName, tVar, tC, tOp, tUn, tNil, tCons, tCall, tCB, tBM, tBM0, tSl, tNoPart, tPart, tRet, tRetN, tIf, tIfS, tB, tTest, tDrop, tNext, tTup, tLst, tAnd, tOr, tNot, tNotV, tYes, tIsN, tNotN, rI, rI0, rU, rEq, rNe, rPop, rAppend, rCat, rSetL, rIxL, rIxS, rSlL, tRevL, tFor_eq, tWhile_eq, tLc_eq, iList, iTup, iRng1, iRng2, iStr, iZip, gTup, gCons, gNil, gSub, L2.start, Lay.cx_K, CDiv, CDivN, CPow, List.map_cons, List.map_nil, List.length_cons, List.length_nil, List.replicate_succ, List.replicate_zero, List.cons_append, List.nil_append, List.append_nil, List.set_cons_zero, List.set_cons_succ, List.getElem?_cons_zero, List.getElem?_cons_succ, Option.some.injEq, exists_eq_left', V.int.injEq, V.str.injEq, V.ref.injEq, V.bl.injEq, List.cons.injEq, and_true, true_and, exists_and_left, exists_eq_left, exists_eq, and_assoc, Nat.reduceAdd, Nat.reduceSub, Nat.zero_add, exists_and_right, exists_const, L2.wipe, if_true, if_false, tBits, rLenK, rCopyK, rTupleK, tXst, tXf, tMkX, tMk0, N_TooMany_init]
    refine ⟨C, T, n1, .inl ⟨ea, fun dx hdx ne => ?_⟩⟩
    refine k _ dx hdx ne upd_same ?_ ?_
    · rw [upd_ne ne, upd_same]
    · intro b x y
      rw [upd_ne x, upd_ne y]

theorem ok_Ring_init {f C : Addr} {fd : FuncData} (F : Fun K "__init__" "Ring.__init__" s_Ring_init f fd) (T : ExC K C)
    (n1 : PySem.W.findIn K (.ref C) "word" = some none) (n2 : PySem.W.findIn K (.ref C) "names" = some none) :
    FnG P w K mg base CX0 1 f fd ["self", "names"] (spIni C fun v => [("names", v), ("word", .str "ring")]) := by
  refine okG F sc_Ring_init (fun vs H Q E h => ?_) (fun cdv A outer s H vs Q E hr hq h => ?_)
  · obtain ⟨a, v, rfl, _⟩ := h
    rfl
  · obtain ⟨a, v, rfl, ea, k⟩ := h
    have nd := sc_Ring_init.nd
    refine ⟨_, (pss_cons (ps_xst (pv 0) pe_str)
      (pss_one (ps_xst (pv 0) (pv 1)))), ?_⟩
    simp (maxSteps := 10000000) only [tSeq, tAsg, gName, tVar, tC, tOp, tUn, tNil, tCons, tCall, tCB, tBM, tBM0, tSl, tNoPart, tPart, tRet, tRetN, tIf, tIfS, tB, tTest, tDrop, tNext, tTup, tLst, tAnd, tOr, tNot, tNotV, tYes, tIsN, tNotN, rI, rI0, rU, rEq, rNe, rPop, rAppend, rCat, rSetL, rIxL, rIxS, rSlL, tRevL, tFor_eq, tWhile_eq, tLc_eq, iList, iTup, iRng1, iRng2, iStr, iZip, gTup, gCons, gNil, gSub, L2.start, Lay.cx_K, CDiv, CDivN, CPow, List.map_cons, List.map_nil, List.length_cons, List.length_nil, List.replicate_succ, List.replicate_zero, List.cons_append, List.nil_append, List.append_nil, List.set_cons_zero, List.set_cons_succ, List.getElem?_cons_zero, List.getElem?_cons_succ, Option.some.injEq, exists_eq_left', V.int.injEq, V.str.injEq, V.ref.injEq, V.bl.injEq, List.cons.injEq, and_true, true_and, exists_and_left, exists_eq_left, exists_eq, and_assoc, Nat.reduceAdd, Nat.reduceSub, Nat.zero_add, exists_and_right, exists_const, L2.wipe, if_true, if_false, tBits, rLenK, rCopyK, rTupleK, tXst, tXf, tMkX, tMk0, N_Ring_init]
    refine ⟨C, T, n1, .inl ⟨ea, fun dx hdx ne => ?_⟩⟩
    refine ⟨C, T, n2, .inr ⟨dx, upd_same, _, by rw [upd_ne ne, upd_same], by decide, ?_⟩⟩
    refine k _ dx hdx ne ?_ upd_same ?_
    · rw [upd_ne (Ne.symm ne), upd_same]
    · intro b x y
      rw [upd_ne y, upd_ne x, upd_ne y]

theorem ok_Noticed_init {f C : Addr} {fd : FuncData} (F : Fun K "__init__" "Noticed.__init__" s_Noticed_init f fd) (T : ExC K C)
    (n1 : PySem.W.findIn K (.ref C) "word" = some none) (n2 : PySem.W.findIn K (.ref C) "stranger" = some none) :
    FnG P w K mg base CX0 1 f fd ["self", "stranger"] (spIni C fun v => [("stranger", v), ("word", .str "noticed")]) := by
  refine okG F sc_Noticed_init (fun vs H Q E h => ?_) (fun cdv A outer s H vs Q E hr hq h => ?_)
  · obtain ⟨a, v, rfl, _⟩ := h
    rfl
  · obtain ⟨a, v, rfl, ea, k⟩ := h
    have nd := sc_Noticed_init.nd
    refine ⟨_, (pss_cons (ps_xst (pv 0) pe_str)
      (pss_one (ps_xst (pv 0) (pv 1)))), ?_⟩
    simp (maxSteps := 10000000) only [tSeq, tAsg, gName, tVar, tC, tOp, tUn, tNil, tCons, tCall, tCB, tBM, tBM0, tSl, tNoPart, tPart, tRet, tRetN, tIf, tIfS, tB, tTest, tDrop, tNext, tTup, tLst, tAnd, tOr, tNot, tNotV, tYes, tIsN, tNotN, rI, rI0, rU, rEq, rNe, rPop, rAppend, rCat, rSetL, rIxL, rIxS, rSlL, tRevL, tFor_eq, tWhile_eq, tLc_eq, iList, iTup, iRng1, iRng2, iStr, iZip, gTup, gCons, gNil, gSub, L2.start, Lay.cx_K, CDiv, CDivN, CPow, List.map_cons, List.map_nil, List.length_cons, List.length_nil, List.replicate_succ, List.replicate_zero, List.cons_append, List.nil_append, List.append_nil, List.set_cons_zero, List.set_cons_succ, List.getElem?_cons_zero, List.getElem?_cons_succ, Option.some.injEq, exists_eq_left', V.int.injEq, V.str.injEq, V.ref.injEq, V.bl.injEq, List.cons.injEq, and_true, true_and, exists_and_left, exists_eq_left, exists_eq, and_assoc, Nat.reduceAdd, Nat.reduceSub, Nat.zero_add, exists_and_right, exists_const, L2.wipe, if_true, if_false, tBits, rLenK, rCopyK, rTupleK, tXst, tXf, tMkX, tMk0, N_Noticed_init]
    refine ⟨C, T, n1, .inl ⟨ea, fun dx hdx ne => ?_⟩⟩
    refine ⟨C, T, n2, .inr ⟨dx, upd_same, _, by rw [upd_ne ne, upd_same], by decide, ?_⟩⟩
    refine k _ dx hdx ne ?_ upd_same ?_
    · rw [upd_ne (Ne.symm ne), upd_same]
    · intro b x y
      rw [upd_ne y, upd_ne x, upd_ne y]

theorem own_mk {x qual : Str} {C fI : Addr} {fd : FuncData} {st : Stmt} {ps : List Str} {sp : Sp} (T : ExC K C) (gm : mg x = some (.ref C))
    (iC : PySem.W.findIn K (.ref C) "__init__" = some (some (.ref fI))) (tI : PySem.W.typeIn K (.ref fI) = some (.type "function"))
    (F : Fun K "__init__" qual st fI fd) (O : FnG P w K mg base CX0 1 fI fd ("self" :: ps) sp)
    (h : ∀ (kV doc pm : Value) (an : Option Addr) (cdv ct : Value) (self : Value) (us : List Value), us.length = ps.length →
      bindArgs (PySem.W.fnOf "__init__" qual (defArgs st) (defBody st) (defScope st) .none kV doc pm an cdv ct) ⟨self :: us, []⟩ = pure ((("self" : Str) :: ps).zip (self :: us)))
    (h2 : ∀ (kV doc pm : Value) (an : Option Addr) (cdv ct : Value) (self : Value) (us : List Value), us.length = ps.length →
      bindArgs (PySem.W.fnOf "__init__" qual (defArgs st) (defBody st) (defScope st) .none kV doc pm an cdv ct) ⟨[self], ps.zip us⟩ = pure ((("self" : Str) :: ps).zip (self :: us))) :
    Own P w K mg base 1 x C ps sp := by
  refine ⟨T, gm, fI, fd, iC, tI, O, ?_, ?_⟩
  · obtain ⟨oc, od, kV, dc, pm, an, cv, ct, sl, rfl, lk, hcd⟩ := F.ex
    intro s self us hl
    exact .of_eq (h kV dc pm an cv ct self us hl)
  · obtain ⟨oc, od, kV, dc, pm, an, cv, ct, sl, rfl, lk, hcd⟩ := F.ex
    intro s self us hl
    exact .of_eq (h2 kV dc pm an cv ct self us hl)
end
end C01
namespace C01
open PySem PySem.Spec PyProof.Rows L2 Lay
section
variable {P : Program} {w : World} {K : PySem.W.Frag} {mg : Str → Option Value} {base : Heap}
theorem ok_law_feed {f : Addr} {fd : FuncData} (F : Fun K "_law_feed" "_law_feed" s_law_feed f fd) (z_list : mg "list" = none) :
    FnG P w K mg base CX0 1 f fd ["_law_script"] (sp_feed K) := by
  refine okG F sc_law_feed (fun vs H Q E h => ?_) (fun cdv A outer s H vs Q E hr hq h => ?_)
  · obtain ⟨a, ns, rfl, _⟩ := h
    rfl
  · obtain ⟨a, ns, rfl, ha, hn, k⟩ := h
    have nd := sc_law_feed.nd
    refine ⟨_, (pss_cons (ps_set (i := 1) nd rfl (Or.inl rfl) pe_int)
      (pss_cons (ps_for PassesOwn.never rfl (piL K (pi_list (pe_slice (slLK K) (pv 0) po_none (po_some pe_int)))) (pg_name (i := 2) nd rfl (Or.inl rfl))
        (pss_one (ps_set (i := 1) nd rfl (Or.inl rfl) (pe_op op_mod (pe_op op_add (pe_op op_add (pe_op op_mul (pv 1) pe_int) (pe_op op_mod (pv 2) pe_int)) pe_int) pe_int))))
      (pss_one (ps_ret (pe_lst (pa_cons (revK K (pe_revL (pe_callTy (copyK K) (by rfl) z_list (by decide +kernel) (pa_cons (pe_slice (slLK K) (pv 0) po_none (po_some pe_int)) pa_nil)))) (pa_cons (pv 1) (pa_cons pe_int pa_nil)))))))), ?_⟩
    simp only [tSeq, tAsg, gName, tVar, tC, tOp, tUn, tNil, tCons, tCall, tCB, tBM, tBM0, tSl, tNoPart, tPart, tRet, tRetN, tIf, tIfS, tB, tTest, tDrop, tNext, tTup, tLst, tAnd, tOr, tNot, tNotV, tYes, tIsN, tNotN, rI, rI0, rU, rEq, rNe, rPop, rAppend, rCat, rSetL, rIxL, rIxS, rSlL, tRevL, tFor_eq, tWhile_eq, tLc_eq, iList, iTup, iRng1, iRng2, iStr, iZip, gTup, gCons, gNil, gSub, L2.start, Lay.cx_K, CDiv, CDivN, CPow, List.map_cons, List.map_nil, List.length_cons, List.length_nil, List.replicate_succ, List.replicate_zero, List.cons_append, List.nil_append, List.append_nil, List.set_cons_zero, List.set_cons_succ, List.getElem?_cons_zero, List.getElem?_cons_succ, Option.some.injEq, exists_eq_left', V.int.injEq, V.str.injEq, V.ref.injEq, V.bl.injEq, List.cons.injEq, and_true, true_and, exists_and_left, exists_eq_left, exists_eq, and_assoc, Nat.reduceAdd, Nat.reduceSub, Nat.zero_add, exists_and_right, exists_const, L2.wipe, if_true, if_false, tBits, rLenK, rCopyK, rTupleK, N_law_feed]
    refine ⟨_, ha, fun q hq' => ?_⟩
    have e63 : cutV (ns.map V.int) none (some 63) = ns.map V.int := cut63 (by simpa using hn)
    rw [e63]
    refine ⟨⟨_, .inl (.inl upd_same)⟩, ?_⟩
    have s1 : Same H (upd H q (.lst (ns.map V.int))) := same_upd hq'
    refine Loop.list (ns.map V.int) (fun i τ G => ∃ (m : Int) (c : Option V), τ = [some (.ref a), some (.int m), c] ∧ 0 ≤ m ∧ m < 2147483563 ∧ G = upd H q (.lst (ns.map V.int)))
      ⟨9873, none, rfl, by decide, by decide, rfl⟩ (fun i τ G ⟨_, _, _, _, _, e⟩ => by rw [e]; exact .inl (.inl upd_same)) ?_ ?_
    · rintro i x τ G hx ⟨m, c, rfl, h0, h1, rfl⟩
      obtain ⟨y, rfl⟩ := int_at hx
      simp only [tSeq, tAsg, gName, tVar, tC, tOp, tUn, tNil, tCons, tCall, tCB, tBM, tBM0, tSl, tNoPart, tPart, tRet, tRetN, tIf, tIfS, tB, tTest, tDrop, tNext, tTup, tLst, tAnd, tOr, tNot, tNotV, tYes, tIsN, tNotN, rI, rI0, rU, rEq, rNe, rPop, rAppend, rCat, rSetL, rIxL, rIxS, rSlL, tRevL, tFor_eq, tWhile_eq, tLc_eq, iList, iTup, iRng1, iRng2, iStr, iZip, gTup, gCons, gNil, gSub, L2.start, Lay.cx_K, CDiv, CDivN, CPow, List.map_cons, List.map_nil, List.length_cons, List.length_nil, List.replicate_succ, List.replicate_zero, List.cons_append, List.nil_append, List.append_nil, List.set_cons_zero, List.set_cons_succ, List.getElem?_cons_zero, List.getElem?_cons_succ, Option.some.injEq, exists_eq_left', V.int.injEq, V.str.injEq, V.ref.injEq, V.bl.injEq, List.cons.injEq, and_true, true_and, exists_and_left, exists_eq_left, exists_eq, and_assoc, Nat.reduceAdd, Nat.reduceSub, Nat.zero_add, exists_and_right, exists_const, L2.wipe, if_true, if_false, tBits, rLenK, rCopyK, rTupleK]
      refine ⟨.inr (by decide), by decide, by decide, ?_, ?_⟩
      · exact Int.emod_nonneg _ (by decide)
      · exact Int.emod_lt_of_pos _ (by decide)
    · rintro τ G ⟨m, c, rfl, h0, h1, rfl⟩
      simp only [tSeq, tAsg, gName, tVar, tC, tOp, tUn, tNil, tCons, tCall, tCB, tBM, tBM0, tSl, tNoPart, tPart, tRet, tRetN, tIf, tIfS, tB, tTest, tDrop, tNext, tTup, tLst, tAnd, tOr, tNot, tNotV, tYes, tIsN, tNotN, rI, rI0, rU, rEq, rNe, rPop, rAppend, rCat, rSetL, rIxL, rIxS, rSlL, tRevL, tFor_eq, tWhile_eq, tLc_eq, iList, iTup, iRng1, iRng2, iStr, iZip, gTup, gCons, gNil, gSub, L2.start, Lay.cx_K, CDiv, CDivN, CPow, List.map_cons, List.map_nil, List.length_cons, List.length_nil, List.replicate_succ, List.replicate_zero, List.cons_append, List.nil_append, List.append_nil, List.set_cons_zero, List.set_cons_succ, List.getElem?_cons_zero, List.getElem?_cons_succ, Option.some.injEq, exists_eq_left', V.int.injEq, V.str.injEq, V.ref.injEq, V.bl.injEq, List.cons.injEq, and_true, true_and, exists_and_left, exists_eq_left, exists_eq, and_assoc, Nat.reduceAdd, Nat.reduceSub, Nat.zero_add, exists_and_right, exists_const, L2.wipe, if_true, if_false, tBits, rLenK, rCopyK, rTupleK]
      refine ⟨_, s1.seq ha, fun q2 hq2 => ?_⟩
      rw [e63]
      refine ⟨_, .inl (.inl (.inl upd_same)), fun q3 hq3 => ⟨_, .inl (.inl upd_same), fun l hl => ⟨line _, fun p hp => ?_⟩⟩⟩
      have npl : l ≠ p := ne_of_none upd_same hp
      have s2 := sameU (o := .lst (ns.map V.int)) s1 hq2
      have s3 := sameU (o := .lst (ns.map V.int)) s2 hq3
      have s4 := sameU (o := .lst (ns.map V.int).reverse) s3 hl
      refine k p l _ (sameU s4 hp) (s4.free hp) (s3.free hl) ⟨ns.reverse, m, upd_same, ?_, ?_, by decide⟩
      · rw [upd_ne npl, upd_same, List.map_reverse]
      · rw [List.length_reverse]
        exact hn
theorem ok_law_take {f : Addr} {fd : FuncData} (F : Fun K "_law_take" "_law_take" s_law_take f fd) :
    FnG P w K mg base CX0 1 f fd ["_law_feed_here", "_law_many"] sp_take := by
  refine okG F sc_law_take (fun vs H Q E h => ?_) (fun cdv A outer s H vs Q E hr hq h => ?_)
  · obtain ⟨p, l, n, many, rfl, _⟩ := h
    rfl
  · obtain ⟨p, l, n, many, rfl, hF, hn, h0, h1, k⟩ := h
    have nd := sc_law_take.nd
    have npl := hF.ne
    obtain ⟨ns, m, hp, hl, hlen, _⟩ := hF
    refine ⟨_, (pss_cons (ps_asg (pe_op op_add (pe_ix (ixLK K) (pv 0) pe_int (fun _ _ => rfl)) pe_int) (pg_sub (pv 0) pe_int set_list))
      (pss_cons (ps_set (i := 2) nd rfl (Or.inl rfl) (pe_op op_add (pe_ix (ixLK K) (pv 0) pe_int (fun _ _ => rfl)) (pe_op op_mul pe_int (pe_ix (ixLK K) (pv 0) pe_int (fun _ _ => rfl)))))
      (pss_cons (ps_if (pt_cmpR (neDK K hr.units) (pe_ix (ixLK K) (pv 0) pe_int (fun _ _ => rfl)) (pe_lst pa_nil) (nomark _)) (pss_cons (ps_set (i := 3) nd rfl (Or.inl rfl) (bm0K K (pe_bm0 PySem.F.plainAttrs_list PySem.F.slot_list_pop PySem.F.type_list_pop mt_pop (pe_ix (ixLK K) (pv 0) pe_int (fun _ _ => rfl)))))
        (pss_cons (ps_if (pt_cmpR op_ge (pv 3) (pe_op op_pow pe_int pe_int) (nomark _)) (pss_cons (ps_expr (bmK K (pe_bm PySem.F.plainAttrs_list PySem.F.slot_list_append PySem.F.type_list_append mt_append (pe_ix (ixLK K) (pv 0) pe_int (fun _ _ => rfl)) (pa_cons (pe_op op_fdiv (pv 3) (pv 1)) pa_nil))))
          (pss_one (ps_ret (pe_op op_mod (pv 3) (pv 1))))) pss_nil)
        (pss_one (ps_set (i := 2) nd rfl (Or.inl rfl) (pe_op op_add (pv 2) (pv 3)))))) pss_nil)
      (pss_cons (ps_set (i := 2) nd rfl (Or.inl rfl) (pe_op op_add (pe_op op_mul (pe_op op_mod (pv 2) pe_int) pe_int) (pe_op op_mul (pe_op op_mul pe_int (pe_ix (ixLK K) (pv 0) pe_int (fun _ _ => rfl))) (pe_ix (ixLK K) (pv 0) pe_int (fun _ _ => rfl)))))
      (pss_cons (ps_set (i := 2) nd rfl (Or.inl rfl) (pe_op op_mod (pe_op op_add (pv 2) pe_int) pe_int))
      (pss_one (ps_ret (pe_op op_mod (pe_op op_fdiv (pe_op op_mod (pe_op op_mul (pv 2) (pe_op op_add (pe_op op_fdiv (pv 2) pe_int) pe_int)) pe_int) pe_int) (pv 1))))))))), ?_⟩
    simp only [tSeq, tAsg, gName, tVar, tC, tOp, tUn, tNil, tCons, tCall, tCB, tBM, tBM0, tSl, tNoPart, tPart, tRet, tRetN, tIf, tIfS, tB, tTest, tDrop, tNext, tTup, tLst, tAnd, tOr, tNot, tNotV, tYes, tIsN, tNotN, rI, rI0, rU, rEq, rNe, rPop, rAppend, rCat, rSetL, rIxL, rIxS, rSlL, tRevL, tFor_eq, tWhile_eq, tLc_eq, iList, iTup, iRng1, iRng2, iStr, iZip, gTup, gCons, gNil, gSub, L2.start, Lay.cx_K, CDiv, CDivN, CPow, List.map_cons, List.map_nil, List.length_cons, List.length_nil, List.replicate_succ, List.replicate_zero, List.cons_append, List.nil_append, List.append_nil, List.set_cons_zero, List.set_cons_succ, List.getElem?_cons_zero, List.getElem?_cons_succ, Option.some.injEq, exists_eq_left', V.int.injEq, V.str.injEq, V.ref.injEq, V.bl.injEq, List.cons.injEq, and_true, true_and, exists_and_left, exists_eq_left, exists_eq, and_assoc, Nat.reduceAdd, Nat.reduceSub, Nat.zero_add, exists_and_right, exists_const, L2.wipe, if_true, if_false, tBits, rLenK, rCopyK, rTupleK, N_law_take]
    have cast : ((n : Nat) : Int) + 1 = ((n + 1 : Nat) : Int) := rfl
    refine ⟨_, .inl (.inl hp), _, rfl, _, rfl, _, hp, _, rfl, ?_⟩
    rw [cast, show ([V.ref l, V.int m, V.int (n : Nat)].set (Int.toNat 2) (.int ((n + 1 : Nat) : Int))) = [V.ref l, V.int m, V.int ((n + 1 : Nat) : Int)] from rfl]
    generalize hG : upd H p (.lst [V.ref l, V.int m, V.int ((n + 1 : Nat) : Int)]) = G
    have gp : G p = some (.lst [V.ref l, V.int m, V.int ((n + 1 : Nat) : Int)]) := by rw [← hG]; exact upd_same
    have gl : G l = some (.lst (ns.map V.int)) := by rw [← hG, upd_ne (Ne.symm npl)]; exact hl
    have gk : Keep p l H G := fun b o e x y => by rw [← hG, upd_ne x]; exact e
    have small : CMul 16807 ((n + 1 : Nat) : Int) := .inl (by decide)
    refine ⟨_, .inl (.inl gp), _, rfl, _, .inl (.inl gp), _, rfl, _, rfl, small, _, rfl, _, .inl (.inl gp), _, rfl, by decide, fun e he => ?_⟩
    have ge : Same G (upd G e (.lst [])) := same_upd he
    refine ⟨.list (ns.map PyData.int), .list [], .lst (.inl (.inl (ge _ _ gl))) (dpInts ns), .lst (.inl (.inl upd_same)) .nil, shapedInts ns, shapedInts [], _, rfl, ?_⟩
    rw [eqvNil]
    have last : ∀ (c : Int) (G' : Hp) (a : List (Option V)), Feed G' p l (n + 1) → Keep p l H G' →
        Q (.int (c * (c / 3 + 48271) % 2147483549 / 64 % many)) G' := fun c G' a f g =>
      k _ G' (Int.emod_nonneg _ (by omega)) (Int.emod_lt_of_pos _ h0) f g
    have bound : ∀ c : Int, CMul (c % 2147483587) (c % 2147483587 / 3 + 48271) := fun c => by
      have a := Int.emod_nonneg c (show (2147483587 : Int) ≠ 0 by decide)
      have b := Int.emod_lt_of_pos c (show (0 : Int) < 2147483587 by decide)
      exact .inl ⟨by omega, by omega⟩
    have sq : CMul (7919 * ((n + 1 : Nat) : Int)) ((n + 1 : Nat) : Int) := .inr ⟨by omega, by omega⟩
    cases ns with
    | nil =>
      refine iteF ?_
      have fe : Feed (upd G e (.lst [])) p l (n + 1) := ⟨[], m, ge _ _ gp, ge _ _ gl, by decide, by omega⟩
      refine ⟨by decide, .inr (by decide), _, .inl (.inl (ge _ _ gp)), _, rfl, _, rfl, .inl (by decide), _, .inl (.inl (ge _ _ gp)), _, rfl, _, rfl, sq, by decide, by decide, by decide, bound _, by decide, by decide, by decide, h0, ?_⟩
      exact last _ _ [] fe (gk.trans (.of ge))
    | cons z r =>
      refine iteT ?_
      generalize hz : (z :: r) = zs at gl hlen hl
      have hne : zs ≠ [] := by rw [← hz]; simp
      clear hz
      have pop : (zs.map V.int)[(zs.map V.int).length - 1]? = some (.int (zs.getLast hne)) := by
        rw [List.length_map, List.getElem?_map, ← List.getLast?_eq_getElem?, List.getLast?_eq_getLast hne]
        rfl
      generalize zs.getLast hne = y at pop
      have dl : (zs.map V.int).dropLast = (zs.dropLast).map V.int := by rw [List.map_dropLast]
      have dlen : zs.dropLast.length < 63 := by
        rw [List.length_dropLast]
        have : 0 < zs.length := List.length_pos_iff.mpr hne
        omega
      refine ⟨_, .inl (.inl (ge _ _ gp)), _, rfl, .inl ⟨rfl, _, .inl (.inl (ge _ _ gl))⟩, l, rfl, _, ge _ _ gl, _, pop, by decide, by decide, by decide, _, rfl, ?_⟩
      rw [dl]
      generalize hG2 : upd (upd G e (.lst [])) l (.lst (zs.dropLast.map V.int)) = G2
      have g2p : G2 p = some (.lst [V.ref l, V.int m, V.int ((n + 1 : Nat) : Int)]) := by rw [← hG2, upd_ne npl]; exact ge _ _ gp
      have g2l : G2 l = some (.lst (zs.dropLast.map V.int)) := by rw [← hG2]; exact upd_same
      have g2k : Keep p l H G2 := gk.trans fun b o h x y => by rw [← hG2, upd_ne y]; exact ge _ _ h
      refine ite2 (fun c => ?_) (fun c => ?_)
      · refine ⟨_, .inl (.inl g2p), _, rfl, .inl ⟨rfl, _, .inl (.inl g2l)⟩, _, rfl, h0, by omega, l, rfl, _, g2l, ltline _ (by rw [List.length_map]; omega), _, rfl, h0, ?_⟩
        refine k _ _ (Int.emod_nonneg _ (by omega)) (Int.emod_lt_of_pos _ h0) ⟨zs.dropLast ++ [y / many], m, ?_, ?_, ?_, by omega⟩ (g2k.trans fun b o h x y => by rw [upd_ne y]; exact h)
        · rw [upd_ne npl]
          exact g2p
        · rw [upd_same, List.map_append]
          rfl
        · simp only [List.length_append, List.length_cons, List.length_nil]
          omega
      · refine ⟨_, rfl, by decide, .inr (by decide), _, .inl (.inl g2p), _, rfl, _, rfl, .inl (by decide), _, .inl (.inl g2p), _, rfl, _, rfl, sq, by decide, by decide, by decide, bound _, by decide, by decide, by decide, h0, ?_⟩
        exact last _ _ [] ⟨zs.dropLast, m, g2p, g2l, by omega, by omega⟩ g2k

def sp_one : Sp := fun vs H Q _ => ∃ (p l q : Addr) (n : Nat) (xs : List V), vs = [.ref p, .ref q] ∧ Feed H p l n ∧ n < 10 ^ 9 ∧
  H q = some (.lst xs) ∧ q ≠ p ∧ q ≠ l ∧ 0 < xs.length ∧ xs.length < 1000 ∧
  ∀ (i : Nat) x H', xs[i]? = some x → Feed H' p l (n + 1) → Keep p l H H' → Q x H'
theorem ok_law_one {f : Addr} {fd : FuncData} (F : Fun K "_law_one" "_law_one" s_law_one f fd) (z_len : mg "len" = none)
    (D_law_take : Has P w K mg base 1 "_law_take" ["_law_feed_here", "_law_many"] sp_take) :
    FnG P w K mg base CX0 2 f fd ["_law_feed_here", "_law_some"] sp_one := by
  refine okG F sc_law_one (fun vs H Q E h => ?_) (fun cdv A outer s H vs Q E hr hq h => ?_)
  · obtain ⟨p, l, q, n, xs, rfl, _⟩ := h
    rfl
  · obtain ⟨p, l, q, n, xs, rfl, hF, hn, hx, qp, ql, h0, h1, k⟩ := h
    have nd := sc_law_one.nd
    refine ⟨_, (pss_one (ps_ret (pe_ix (ixLK K) (pv 1) (pe_c D_law_take (hr.mono (by decide)) hq (pa_cons (pv 0) (pa_cons (pe_callB (lenK K) (by rfl) z_len (by decide +kernel) (pa_cons (pv 1) pa_nil)) pa_nil))) (fun _ _ => rfl)))), ?_⟩
    simp only [tSeq, tAsg, gName, tVar, tC, tOp, tUn, tNil, tCons, tCall, tCB, tBM, tBM0, tSl, tNoPart, tPart, tRet, tRetN, tIf, tIfS, tB, tTest, tDrop, tNext, tTup, tLst, tAnd, tOr, tNot, tNotV, tYes, tIsN, tNotN, rI, rI0, rU, rEq, rNe, rPop, rAppend, rCat, rSetL, rIxL, rIxS, rSlL, tRevL, tFor_eq, tWhile_eq, tLc_eq, iList, iTup, iRng1, iRng2, iStr, iZip, gTup, gCons, gNil, gSub, L2.start, Lay.cx_K, CDiv, CDivN, CPow, List.map_cons, List.map_nil, List.length_cons, List.length_nil, List.replicate_succ, List.replicate_zero, List.cons_append, List.nil_append, List.append_nil, List.set_cons_zero, List.set_cons_succ, List.getElem?_cons_zero, List.getElem?_cons_succ, Option.some.injEq, exists_eq_left', V.int.injEq, V.str.injEq, V.ref.injEq, V.bl.injEq, List.cons.injEq, and_true, true_and, exists_and_left, exists_eq_left, exists_eq, and_assoc, Nat.reduceAdd, Nat.reduceSub, Nat.zero_add, exists_and_right, exists_const, L2.wipe, if_true, if_false, tBits, rLenK, rCopyK, rTupleK, N_law_one]
    refine ⟨xs, .inl (.inl (.inl hx)), p, l, n, _, rfl, hF, hn, by omega, by omega, ?_⟩
    intro r H' r0 r1 f1 k1
    have hx' := k1 _ _ hx qp ql
    obtain ⟨j, hj⟩ : ∃ j : Nat, r = j := ⟨r.toNat, by omega⟩
    subst hj
    have hlt : j < xs.length := by omega
    have e : xs[j]? = some xs[j] := List.getElem?_eq_getElem hlt
    refine ⟨xs, j, rfl, .inl (.inl hx'), ?_⟩
    exact ⟨_, atI_nat e, k j _ H' e f1 k1⟩
def base_of (n : Nat) : Nat := 60 * 4 ^ n
/-- what is drawn: any value; all of it is new -/
def sp_thing (K : PySem.W.Frag) (m : Nat) : Sp := fun vs H Q _ => ∃ (p l : Addr) (n : Nat), vs = [.ref p, .int m] ∧ Feed H p l n ∧ n + 4 ^ (m + 1) < 10 ^ 9 ∧
  ∀ v d H' n', Dx K (new H H') v d → Sm (m + 1) (base_of m) d → n' ≤ n + 4 ^ (m + 1) → Feed H' p l n' → Keep p l H H' → Q v H'
def sp_less (K : PySem.W.Frag) (m : Nat) : Sp := fun vs H Q E => ∃ m', m = m' + 1 ∧ sp_thing K m' vs H Q E
def nw (L : Addr) (H G : Hp) : Hp := fun b => if b = L then none else new H G b
theorem nw_some {L b : Addr} {H G : Hp} {o : HO} (e : nw L H G b = some o) : b ≠ L ∧ H b = none ∧ G b = some o := by
  unfold nw new at e
  split at e
  · cases e
  · rename_i h1
    split at e
    · rename_i h2
      exact ⟨h1, h2, e⟩
    · cases e
theorem nw_of {L b : Addr} {H G : Hp} {o : HO} (h1 : b ≠ L) (h2 : H b = none) (h3 : G b = some o) : nw L H G b = some o := by
  unfold nw new
  rw [if_neg h1, if_pos h2, h3]
theorem new_of {b : Addr} {H G : Hp} {o : HO} (h2 : H b = none) (h3 : G b = some o) : new H G b = some o := by
  unfold new
  rw [if_pos h2, h3]
theorem new_some {b : Addr} {H G : Hp} {o : HO} (e : new H G b = some o) : H b = none ∧ G b = some o := by
  unfold new at e
  split at e
  · rename_i h2
    exact ⟨h2, e⟩
  · cases e
theorem _root_.Lay.Feed.there {H : Hp} {p l : Addr} {n : Nat} (h : Feed H p l n) : H p ≠ none ∧ H l ≠ none := by
  obtain ⟨ns, m, h1, h2, _⟩ := h
  refine ⟨?_, ?_⟩
  · rw [h1]
    exact Option.some_ne_none _
  · rw [h2]
    exact Option.some_ne_none _
/-- what is not there behind was not there before -/
theorem _root_.Lay.Keep.back {H G : Hp} {p l b : Addr} {n : Nat} (k : Keep p l H G) (f : Feed G p l n) (h : G b = none) : H b = none := by
  cases e : H b with
  | none => rfl
  | some o =>
    have np : b ≠ p := fun z => f.there.1 (by rw [← z]; exact h)
    have nl : b ≠ l := fun z => f.there.2 (by rw [← z]; exact h)
    rw [k b o e np nl] at h
    cases h
section
variable {H G : Hp} {p l L : Addr} {n n1 m m' j : Nat} {Q : VK} {a2 : Option V}
theorem things (em : m = m' + 1) (hF : Feed G p l n1) (hH : Feed H p l n) (kG : Keep p l H G) (hL : G L = none) (hj : j ≤ 3)
    (hn : n1 + j * 4 ^ (m' + 1) < 10 ^ 9)
    (k : ∀ G' acc ds n', G' L = some (.lst acc) → DxAll K (nw L H G') acc ds → (∀ d ∈ ds, Sm (m' + 1) (base_of m') d) → ds.length = j →
      n' ≤ n1 + j * 4 ^ (m' + 1) → Feed G' p l n' → Keep p l H G' → Q (.ref L) G') :
    CLoop (Itr 0 j) (gName 4) tYes (tCall (sp_less K m) [] E0 (tCons (tVar 0) (tCons (tOp (rI0 fun i j => V.int (i - j)) (tVar 1) (tC (V.int 1))) tNil)))
      [4] [some (V.ref p), some (V.int m), a2, none, none] L Q (upd G L (.lst [])) := by
  have Lp : L ≠ p := fun z => hF.there.1 (by rw [← z]; exact hL)
  have Ll : L ≠ l := fun z => hF.there.2 (by rw [← z]; exact hL)
  refine CLoop.range (fun i acc F => ∃ ds ni, DxAll K (nw L H F) acc ds ∧ (∀ d ∈ ds, Sm (m' + 1) (base_of m') d) ∧ ds.length = i ∧
    ni ≤ n1 + i * 4 ^ (m' + 1) ∧ Feed F p l ni ∧ Keep p l H F) ?_ upd_same ?_ ?_
  · exact ⟨[], n1, .nil, (fun _ z => absurd z (by simp)), rfl, by omega, hF.same (same_upd hL), kG.trans (.of (same_upd hL))⟩
  · rintro i acc F hi ⟨ds, ni, h1, h2, h3, h4, h5, h6⟩ hFL N hN
    simp only [tSeq, tAsg, gName, tVar, tC, tOp, tUn, tNil, tCons, tCall, tCB, tBM, tBM0, tSl, tNoPart, tPart, tRet, tRetN, tIf, tIfS, tB, tTest, tDrop, tNext, tTup, tLst, tAnd, tOr, tNot, tNotV, tYes, tIsN, tNotN, rI, rI0, rU, rEq, rNe, rPop, rAppend, rCat, rSetL, rIxL, rIxS, rSlL, tRevL, tFor_eq, tWhile_eq, tLc_eq, iList, iTup, iRng1, iRng2, iStr, iZip, gTup, gCons, gNil, gSub, L2.start, Lay.cx_K, CDiv, CDivN, CPow, List.map_cons, List.map_nil, List.length_cons, List.length_nil, List.replicate_succ, List.replicate_zero, List.cons_append, List.nil_append, List.append_nil, List.set_cons_zero, List.set_cons_succ, List.getElem?_cons_zero, List.getElem?_cons_succ, Option.some.injEq, exists_eq_left', V.int.injEq, V.str.injEq, V.ref.injEq, V.bl.injEq, List.cons.injEq, and_true, true_and, exists_and_left, exists_eq_left, exists_eq, and_assoc, Nat.reduceAdd, Nat.reduceSub, Nat.zero_add, exists_and_right, exists_const, L2.wipe, if_true, if_false, tBits, rLenK, rCopyK, rTupleK]
    subst em
    have pos : 0 < 4 ^ (m' + 1) := Nat.pow_pos (by decide)
    have mono : (i + 1) * 4 ^ (m' + 1) ≤ j * 4 ^ (m' + 1) := Nat.mul_le_mul_right _ hi
    have e1 : (i + 1) * 4 ^ (m' + 1) = i * 4 ^ (m' + 1) + 4 ^ (m' + 1) := by rw [Nat.add_mul, Nat.one_mul]
    have e2 : (j + 1) * 4 ^ (m' + 1) = j * 4 ^ (m' + 1) + 4 ^ (m' + 1) := by rw [Nat.add_mul, Nat.one_mul]
    refine ⟨m', rfl, p, l, ni, ?_, h5, by omega, ?_⟩
    · congr 2
      congr 1
      omega
    intro v d F' n' hd hs hn' f' k'
    have hF'L := k' _ _ hFL Lp Ll
    refine ⟨acc, hF'L, ltline _ (by rw [h1.len, h3]; omega), hN _ _ ⟨ds ++ [d], n', ?_, ?_, ?_, by omega, f'.upd Lp Ll, ?_⟩ upd_same⟩
    · have old : Same (nw L H F) (nw L H (upd F' L (.lst (acc ++ [v])))) := by
        intro b o e
        obtain ⟨x1, x2, x3⟩ := nw_some e
        refine nw_of x1 x2 ?_
        rw [upd_ne x1]
        refine k' b o x3 ?_ ?_
        · exact fun z => hH.there.1 (by rw [← z]; exact x2)
        · exact fun z => hH.there.2 (by rw [← z]; exact x2)
      have nou : Same (new F F') (nw L H (upd F' L (.lst (acc ++ [v])))) := by
        intro b o e
        obtain ⟨x2, x3⟩ := new_some e
        have x1 : b ≠ L := fun z => by rw [z, hFL] at x2; cases x2
        refine nw_of x1 (h6.back h5 x2) ?_
        rw [upd_ne x1]
        exact x3
      exact (h1.sub old).snoc (hd.sub nou)
    · intro x hx
      rcases List.mem_append.mp hx with hx | hx
      · exact h2 x hx
      · rw [List.mem_singleton.mp hx]
        exact hs
    · rw [List.length_append, h3]
      rfl
    · have k2 := h6.trans k'
      intro b o e x y
      have nb : b ≠ L := by
        intro z
        have := kG.back hF hL
        rw [← z, e] at this
        cases this
      rw [upd_ne nb]
      exact k2 b o e x y
  · rintro acc G' ⟨ds, ni, h1, h2, h3, h4, h5, h6⟩ hGL
    exact k G' acc ds ni hGL h1 h2 h3 h4 h5 h6
end
end
end C01
namespace C01
open PySem PySem.Spec PyProof.Rows L2 Lay
section
variable {P : Program} {w : World} {K : PySem.W.Frag} {mg : Str → Option Value} {base : Heap}
def items (p1 p2 p3 p4 : Addr) : List V := [V.non, V.bl true, V.bl false, V.int 0, V.int (-1), V.int (10 ^ Int.toNat 39), V.str "", V.str "ring",
  V.str "noticed", V.str "cell", V.ref p1, V.ref p2, V.ref p3, V.ref p4, V.int 500]
def lastly (p : Addr) (Q : VK) (H1 : Hp) : Prop := (0 : Int) ≤ 39 ∧ (39 : Int) ≤ 1000000 ∧ Int.natAbs 10 < 2 ^ 64 ∧ 2 ≤ sizeLine ∧
  ∀ p1, H1 p1 = none → 2 ≤ sizeLine ∧ ∀ p2, upd H1 p1 (.tup [.str "a", .str "b"]) p2 = none → 0 ≤ sizeLine ∧
  ∀ p3, upd (upd H1 p1 (.tup [.str "a", .str "b"])) p2 (.tup [.int 0, .str "h"]) p3 = none → 0 ≤ sizeLine ∧
  ∀ p4, upd (upd (upd H1 p1 (.tup [.str "a", .str "b"])) p2 (.tup [.int 0, .str "h"])) p3 (.tup []) p4 = none → 15 ≤ sizeLine ∧
  ∀ p5, upd (upd (upd (upd H1 p1 (.tup [.str "a", .str "b"])) p2 (.tup [.int 0, .str "h"])) p3 (.tup [])) p4 (.lst []) p5 = none →
    sp_one [.ref p, .ref p5] (upd (upd (upd (upd (upd H1 p1 (.tup [.str "a", .str "b"])) p2 (.tup [.int 0, .str "h"])) p3 (.tup [])) p4 (.lst [])) p5
      (.lst (items p1 p2 p3 p4))) Q E0
theorem base_ge (m : Nat) : 60 ≤ base_of m := by
  unfold base_of
  have : 0 < 4 ^ m := Nat.pow_pos (by decide)
  omega
theorem sm0 {d : PyData} {m : Nat} (h : Sm 1 60 d) : Sm (m + 1) (base_of m) d := h.mono (by omega) (base_ge m)
section
variable {H G : Hp} {p l : Addr} {n m : Nat} {Q : VK}
theorem lastly_ok (hF : Feed G p l (n + 1)) (hH : Feed H p l n) (kG : Keep p l H G) (hn : n + 4 ^ (m + 1) < 10 ^ 9)
    (k : ∀ v d H' n', Dx K (new H H') v d → Sm (m + 1) (base_of m) d → n' ≤ n + 4 ^ (m + 1) → Feed H' p l n' → Keep p l H H' → Q v H') : lastly p Q G := by
  have pw : 3 ≤ 4 ^ (m + 1) := by
    have : 0 < 4 ^ m := Nat.pow_pos (by decide)
    rw [Nat.pow_succ]
    omega
  refine ⟨by decide, by decide, by decide, line _, ?_⟩
  intro p1 h1
  refine ⟨line _, ?_⟩
  intro p2 h2
  refine ⟨line _, ?_⟩
  intro p3 h3
  refine ⟨line _, ?_⟩
  intro p4 h4
  refine ⟨line _, ?_⟩
  intro p5 h5
  have s1 : Same G (upd G p1 (.tup [.str "a", .str "b"])) := same_upd h1
  have s2 := sameU (o := .tup [.int 0, .str "h"]) s1 h2
  have s3 := sameU (o := .tup []) s2 h3
  have s4 := sameU (o := .lst []) s3 h4
  have s5 := sameU (o := .lst (items p1 p2 p3 p4)) s4 h5
  have f1 := s1.free h2
  have f2 := s2.free h3
  have f3 := s3.free h4
  have f4 := s4.free h5
  have a1 : upd G p1 (.tup [.str "a", .str "b"]) p1 = some (.tup [.str "a", .str "b"]) := upd_same
  have a1' := same_upd (o := .lst (items p1 p2 p3 p4)) h5 _ _ (same_upd (o := .lst []) h4 _ _ (same_upd (o := .tup []) h3 _ _ (same_upd (o := .tup [.int 0, .str "h"]) h2 _ _ a1)))
  have a2 : upd (upd G p1 (.tup [.str "a", .str "b"])) p2 (.tup [.int 0, .str "h"]) p2 = some (.tup [.int 0, .str "h"]) := upd_same
  have a2' := same_upd (o := .lst (items p1 p2 p3 p4)) h5 _ _ (same_upd (o := .lst []) h4 _ _ (same_upd (o := .tup []) h3 _ _ a2))
  have a3 : upd (upd (upd G p1 (.tup [.str "a", .str "b"])) p2 (.tup [.int 0, .str "h"])) p3 (.tup []) p3 = some (.tup []) := upd_same
  have a3' := same_upd (o := .lst (items p1 p2 p3 p4)) h5 _ _ (same_upd (o := .lst []) h4 _ _ a3)
  have a4 : upd (upd (upd (upd G p1 (.tup [.str "a", .str "b"])) p2 (.tup [.int 0, .str "h"])) p3 (.tup [])) p4 (.lst []) p4 = some (.lst []) := upd_same
  have a4' := same_upd (o := .lst (items p1 p2 p3 p4)) h5 _ _ a4
  have a5 : upd (upd (upd (upd (upd G p1 (.tup [.str "a", .str "b"])) p2 (.tup [.int 0, .str "h"])) p3 (.tup [])) p4 (.lst [])) p5
      (.lst (items p1 p2 p3 p4)) p5 = some (.lst (items p1 p2 p3 p4)) := upd_same
  generalize upd (upd (upd (upd (upd G p1 (.tup [.str "a", .str "b"])) p2 (.tup [.int 0, .str "h"])) p3 (.tup [])) p4 (.lst [])) p5
      (.lst (items p1 p2 p3 p4)) = F at s5 a1' a2' a3' a4' a5
  have off : ∀ {b : Addr}, G b = none → b ≠ p ∧ b ≠ l := by
    intro b e
    exact ⟨fun z => hF.there.1 (by rw [← z]; exact e), fun z => hF.there.2 (by rw [← z]; exact e)⟩
  refine ⟨p, l, p5, n + 1, _, rfl, hF.same s5, by omega, a5, (off f4).1, (off f4).2, (by show 0 < 15; decide), (by show 15 < 1000; decide), ?_⟩
  intro i x H' hx f' k'
  have fin : ∀ d, Dx K (new H H') x d → Sm 1 60 d → Q x H' := fun d hd hs =>
    k x d H' (n + 1 + 1) hd (sm0 hs) (by omega) f' (kG.trans ((Keep.of s5).trans k'))
  have at' : ∀ {b : Addr} {o : HO}, G b = none → F b = some o → new H H' b = some o := fun {b o} e e2 =>
    new_of (kG.back hF e) (k' b o e2 (off e).1 (off e).2)
  have mem := List.mem_of_getElem? hx
  simp only [items, List.mem_cons, List.not_mem_nil, or_false] at mem
  rcases mem with e | e | e | e | e | e | e | e | e | e | e | e | e | e | e <;> subst e
  · exact fin _ .non ⟨by decide +kernel, by decide +kernel, by decide +kernel⟩
  · exact fin _ (.bl _) ⟨by decide +kernel, by decide +kernel, by decide +kernel⟩
  · exact fin _ (.bl _) ⟨by decide +kernel, by decide +kernel, by decide +kernel⟩
  · exact fin _ (.int _) ⟨by decide +kernel, by decide +kernel, by decide +kernel⟩
  · exact fin _ (.int _) ⟨by decide +kernel, by decide +kernel, by decide +kernel⟩
  · exact fin _ (.int _) ⟨by decide +kernel, by decide +kernel, by decide +kernel⟩
  · exact fin _ (.str _) ⟨by decide +kernel, by decide +kernel, by decide +kernel⟩
  · exact fin _ (.str _) ⟨by decide +kernel, by decide +kernel, by decide +kernel⟩
  · exact fin _ (.str _) ⟨by decide +kernel, by decide +kernel, by decide +kernel⟩
  · exact fin _ (.str _) ⟨by decide +kernel, by decide +kernel, by decide +kernel⟩
  · exact fin (.tuple [.str "a", .str "b"]) (.tup (.inl (.inl (at' h1 a1'))) (.cons (.str _) (.cons (.str _) .nil))) ⟨by decide +kernel, by decide +kernel, by decide +kernel⟩
  · exact fin (.tuple [.int 0, .str "h"]) (.tup (.inl (.inl (at' f1 a2'))) (.cons (.int _) (.cons (.str _) .nil))) ⟨by decide +kernel, by decide +kernel, by decide +kernel⟩
  · exact fin (.tuple []) (.tup (.inl (.inl (at' f2 a3'))) .nil) ⟨by decide +kernel, by decide +kernel, by decide +kernel⟩
  · exact fin (.list []) (.lst (.inl (.inl (at' f3 a4'))) .nil) ⟨by decide +kernel, by decide +kernel, by decide +kernel⟩
  · exact fin _ (.int _) ⟨by decide +kernel, by decide +kernel, by decide +kernel⟩
end
theorem ok_law_thing (m : Nat) (hm : m ≤ 3) {f : Addr} {fd : FuncData} (F : Fun K "_law_thing" "_law_thing" s_law_thing f fd) (z_tuple : mg "tuple" = none) (z_range : mg "range" = none)
    (D_law_take : Has P w K mg base 1 "_law_take" ["_law_feed_here", "_law_many"] sp_take)
    (D_law_one : Has P w K mg base 2 "_law_one" ["_law_feed_here", "_law_some"] sp_one)
    (D_law_thing : Has P w K mg base (m + 2) "_law_thing" ["_law_feed_here", "_law_deep"] (sp_less K m)) :
    FnG P w K mg base CX0 (m + 3) f fd ["_law_feed_here", "_law_deep"] (sp_thing K m) := by
  refine okG F sc_law_thing (fun vs H Q E h => ?_) (fun cdv A outer s H vs Q E hr hq h => ?_)
  · obtain ⟨p, l, n, rfl, _⟩ := h
    rfl
  · obtain ⟨p, l, n, rfl, hF, hn, k⟩ := h
    have nd := sc_law_thing.nd
    have hm0 : (0 < (m : Int)) ↔ 0 < m := by omega
    have pw : 3 ≤ 4 ^ (m + 1) := by
      have : 0 < 4 ^ m := Nat.pow_pos (by decide)
      rw [Nat.pow_succ]
      omega
    refine ⟨_, (pss_cons (ps_set (i := 2) nd rfl (Or.inl rfl) (pe_c D_law_take (hr.mono (by omega)) hq (pa_cons (pv 0) (pa_cons pe_int pa_nil))))
      (pss_cons (ps_if (PW.pt (pw_and (pt_cmpR op_lt (pv 2) pe_int (nomark _)) (pw_and1 (pt_cmpR op_gt (pv 1) pe_int (nomark _))))) (pss_one (ps_ret (pe_callTy (tupleK K) (by rfl) z_tuple (by decide +kernel) (pa_cons (pe_lc (own := [("_law_k", 4)]) (g := gName 4) rfl nd (pi_range1 (by rfl) z_range (pa_cons (pe_c D_law_take (hr.mono (by omega)) hq (pa_cons (pv 0) (pa_cons pe_int pa_nil))) pa_nil)) (blkOk_by (own := [("_law_k", 4)]) (N := N_law_thing) (sc := defScope s_law_thing) (by decide +kernel)) (fun _ _ _ _ _ => (pg_name (i := 4) nd rfl (by first | exact Or.inl rfl | exact Or.inr rfl))) (fun _ _ _ _ _ => pts_nil) (fun _ _ _ _ _ => (pe_c D_law_thing (hr.mono (by omega)) hq (pa_cons (pv 0) (pa_cons (pe_op op_sub (pv 1) pe_int) pa_nil))))) pa_nil)))) pss_nil)
      (pss_cons (ps_if (PW.pt (pw_and (pt_cmpR op_eq (pv 2) pe_int (nomark _)) (pw_and1 (pt_cmpR op_gt (pv 1) pe_int (nomark _))))) (pss_one (ps_ret (pe_lc (own := [("_law_k", 4)]) (g := gName 4) rfl nd (pi_range1 (by rfl) z_range (pa_cons (pe_c D_law_take (hr.mono (by omega)) hq (pa_cons (pv 0) (pa_cons pe_int pa_nil))) pa_nil)) (blkOk_by (own := [("_law_k", 4)]) (N := N_law_thing) (sc := defScope s_law_thing) (by decide +kernel)) (fun _ _ _ _ _ => (pg_name (i := 4) nd rfl (by first | exact Or.inl rfl | exact Or.inr rfl))) (fun _ _ _ _ _ => pts_nil) (fun _ _ _ _ _ => (pe_c D_law_thing (hr.mono (by omega)) hq (pa_cons (pv 0) (pa_cons (pe_op op_sub (pv 1) pe_int) pa_nil))))))) pss_nil)
      (pss_cons (ps_if (PW.pt (pw_and (pt_cmpR op_eq (pv 2) pe_int (nomark _)) (pw_and1 (pt_cmpR op_gt (pv 1) pe_int (nomark _))))) (pss_one (ps_ret (pe_disp (pps_cons pe_str (pe_c D_law_thing (hr.mono (by omega)) hq (pa_cons (pv 0) (pa_cons (pe_op op_sub (pv 1) pe_int) pa_nil))) (pps_cons pe_int pe_non pps_nil)) (by rfl) (by rfl) (fun z => by cases z) (by decide)))) pss_nil)
      (pss_cons (ps_set (i := 3) nd rfl (Or.inl rfl) (pe_lst (pa_cons pe_non (pa_cons pe_bl (pa_cons pe_bl (pa_cons pe_int (pa_cons (pe_un un_neg pe_int) (pa_cons (pe_op op_pow pe_int pe_int) (pa_cons pe_str (pa_cons pe_str (pa_cons pe_str (pa_cons pe_str (pa_cons (pe_tup (pa_cons pe_str (pa_cons pe_str pa_nil))) (pa_cons (pe_tup (pa_cons pe_int (pa_cons pe_str pa_nil))) (pa_cons (pe_tup pa_nil) (pa_cons (pe_lst pa_nil) (pa_cons pe_int pa_nil)))))))))))))))))
      (pss_one (ps_ret (pe_c D_law_one (hr.mono (by omega)) hq (pa_cons (pv 0) (pa_cons (pv 3) pa_nil)))))))))), ?_⟩
    simp only [tSeq, tAsg, gName, tVar, tC, tOp, tUn, tNil, tCons, tCall, tCB, tBM, tBM0, tSl, tNoPart, tPart, tRet, tRetN, tIf, tIfS, tB, tTest, tDrop, tNext, tTup, tLst, tAnd, tOr, tNot, tNotV, tYes, tIsN, tNotN, rI, rI0, rU, rEq, rNe, rPop, rAppend, rCat, rSetL, rIxL, rIxS, rSlL, tRevL, tFor_eq, tWhile_eq, tLc_eq, iList, iTup, iRng1, iRng2, iStr, iZip, gTup, gCons, gNil, gSub, L2.start, Lay.cx_K, CDiv, CDivN, CPow, List.map_cons, List.map_nil, List.length_cons, List.length_nil, List.replicate_succ, List.replicate_zero, List.cons_append, List.nil_append, List.append_nil, List.set_cons_zero, List.set_cons_succ, List.getElem?_cons_zero, List.getElem?_cons_succ, Option.some.injEq, exists_eq_left', V.int.injEq, V.str.injEq, V.ref.injEq, V.bl.injEq, List.cons.injEq, and_true, true_and, exists_and_left, exists_eq_left, exists_eq, and_assoc, Nat.reduceAdd, Nat.reduceSub, Nat.zero_add, exists_and_right, exists_const, L2.wipe, if_true, if_false, tBits, rLenK, rCopyK, rTupleK, N_law_thing]
    refine ⟨p, l, n, 12, rfl, hF, by omega, by decide, by decide, ?_⟩
    intro x H1 x0 x1 f1 k1
    have lst : lastly p Q H1 := lastly_ok f1 hF k1 hn k
    have four : ∀ q, base_of (q + 1) = 4 * base_of q := by
      intro q
      unfold base_of
      rw [Nat.pow_succ]
      omega
    have thing : ∀ (jm : Nat) (Q' : VK) (n1 : Nat) (G : Hp), jm ≤ 3 → 0 < m → Feed G p l n1 → n1 ≤ n + 2 → Keep p l H G → ∀ L, G L = none →
        (∀ G' acc ds n' m', m = m' + 1 → G' L = some (.lst acc) → DxAll K (nw L H G') acc ds → (∀ d ∈ ds, Sm (m' + 1) (base_of m') d) → ds.length ≤ 3 →
          n' ≤ n + 4 ^ (m + 1) → Feed G' p l n' → Keep p l H G' → H L = none → Q' (.ref L) G') →
        CLoop (Itr 0 jm) (gName 4) tYes (tCall (sp_less K m) [] E0 (tCons (tVar 0) (tCons (tOp (rI0 fun i j => V.int (i - j)) (tVar 1) (tC (V.int 1))) tNil)))
          [4] [some (V.ref p), some (V.int m), some (V.int x), none, none] L Q' (upd G L (.lst [])) := by
      intro jm Q' n1 G hj hpos f2 hn1 k2 L hL kk
      obtain ⟨m', rfl⟩ : ∃ m', m = m' + 1 := ⟨m - 1, by omega⟩
      have e3 : 4 ^ (m' + 1 + 1) = 4 * 4 ^ (m' + 1) := by rw [Nat.pow_succ]; omega
      have pos : 0 < 4 ^ (m' + 1) := Nat.pow_pos (by decide)
      have cap : 4 ^ (m' + 1) ≤ 64 := Nat.le_trans (Nat.pow_le_pow_right (by decide) (show m' + 1 ≤ 3 by omega)) (by decide)
      have mul : jm * 4 ^ (m' + 1) ≤ 3 * 4 ^ (m' + 1) := Nat.mul_le_mul_right _ hj
      refine things (n := n) rfl f2 hF k2 hL hj (by omega) ?_
      intro G' acc ds n' a1 a2 a3 a4 a5 a6 a7
      exact kk G' acc ds n' m' rfl a1 a2 a3 (by omega) (by omega) a6 a7 (k2.back f2 hL)
    have dict : 0 < m → tDisp [(tC (V.str "a"), tCall (sp_less K m) [] E0 (tCons (tVar 0) (tCons (tOp (rI0 fun i j => V.int (i - j)) (tVar 1) (tC (V.int 1))) tNil))),
        (tC (V.int 7), tC V.non)] [some (V.ref p), some (V.int m), some (V.int x), none, none] H1 Q := by
      intro hpos
      obtain ⟨m', rfl⟩ : ∃ m', m = m' + 1 := ⟨m - 1, by omega⟩
      have e3 : 4 ^ (m' + 1 + 1) = 4 * 4 ^ (m' + 1) := by rw [Nat.pow_succ]; omega
      simp only [tDisp, tPairs]
      simp only [tSeq, tAsg, gName, tVar, tC, tOp, tUn, tNil, tCons, tCall, tCB, tBM, tBM0, tSl, tNoPart, tPart, tRet, tRetN, tIf, tIfS, tB, tTest, tDrop, tNext, tTup, tLst, tAnd, tOr, tNot, tNotV, tYes, tIsN, tNotN, rI, rI0, rU, rEq, rNe, rPop, rAppend, rCat, rSetL, rIxL, rIxS, rSlL, tRevL, tFor_eq, tWhile_eq, tLc_eq, iList, iTup, iRng1, iRng2, iStr, iZip, gTup, gCons, gNil, gSub, L2.start, Lay.cx_K, CDiv, CDivN, CPow, List.map_cons, List.map_nil, List.length_cons, List.length_nil, List.replicate_succ, List.replicate_zero, List.cons_append, List.nil_append, List.append_nil, List.set_cons_zero, List.set_cons_succ, List.getElem?_cons_zero, List.getElem?_cons_succ, Option.some.injEq, exists_eq_left', V.int.injEq, V.str.injEq, V.ref.injEq, V.bl.injEq, List.cons.injEq, and_true, true_and, exists_and_left, exists_eq_left, exists_eq, and_assoc, Nat.reduceAdd, Nat.reduceSub, Nat.zero_add, exists_and_right, exists_const, L2.wipe, if_true, if_false, tBits, rLenK, rCopyK, rTupleK]
      intro q h
      have hq1 := k1.back f1 h
      have qp : q ≠ p := fun z => f1.there.1 (by rw [← z]; exact h)
      have ql : q ≠ l := fun z => f1.there.2 (by rw [← z]; exact h)
      have pos : 0 < 4 ^ (m' + 1) := Nat.pow_pos (by decide)
      refine ⟨m', rfl, p, l, n + 1, ?_, f1.same (same_upd h), by omega, ?_⟩
      · congr 2
        congr 1
        omega
      intro v d H' n' hd hs hn' f' k'
      have old := k' _ _ (show upd H1 q (.dK []) q = some (.dK []) from upd_same) qp ql
      refine ⟨old, [(.inr "a", v), (.inl 7, V.non)], rfl, (by show 2 ≤ 15; decide), ?_⟩
      refine k _ (.dict [(.str "a", d), (.int 7, .none)]) _ n' ?_ ?_ (by omega) (f'.upd qp ql) ?_
      · refine .dct (es := [(.inr "a", v), (.inl 7, V.non)]) (new_of hq1 upd_same) rfl (.cons (hd.sub ?_) (.cons .non .nil))
        intro b o e
        obtain ⟨y1, y2⟩ := new_some e
        have nb : b ≠ q := fun z => by rw [z, upd_same] at y1; cases y1
        rw [upd_ne nb] at y1
        refine new_of (k1.back f1 y1) ?_
        rw [upd_ne nb]
        exact y2
      · exact Sm.dict hs ⟨by decide +kernel, by decide +kernel, by decide +kernel⟩ ⟨by decide +kernel, by decide +kernel, by decide +kernel⟩ (by have := base_ge m'; rw [four]; omega)
      · intro b o e y1 y2
        have nb : b ≠ q := fun z => by rw [z, hq1] at e; cases e
        rw [upd_ne nb]
        refine k' b o ?_ y1 y2
        rw [upd_ne nb]
        exact k1 b o e y1 y2
    have list : 0 < m → sp_take [V.ref p, V.int 3] H1 (fun x_1 G => ∃ j, x_1 = V.int j ∧ -2 ^ 62 ≤ j ∧ j < 2 ^ 62 ∧ ∀ L, G L = none →
        CLoop (Itr 0 j.toNat) (gName 4) tYes (tCall (sp_less K m) [] E0 (tCons (tVar 0) (tCons (tOp (rI0 fun i j => V.int (i - j)) (tVar 1) (tC (V.int 1))) tNil)))
          [4] [some (V.ref p), some (V.int m), some (V.int x), none, none] L Q (upd G L (.lst []))) E0 := by
      intro hpos
      refine ⟨p, l, n + 1, 3, rfl, f1, by omega, by decide, by decide, ?_⟩
      intro j H2 j0 j1 f2 k2
      refine ⟨j, rfl, by omega, by omega, ?_⟩
      intro L hL
      refine thing j.toNat _ (n + 2) H2 (by omega) hpos f2 (by omega) (k1.trans k2) L hL ?_
      intro G' acc ds n' m' em hL' hd hs hl hn' f' k' hHL
      subst em
      refine k (.ref L) (.list ds) _ n' ?_ ?_ hn' f' k'
      · refine .lst (.inl (.inl (new_of hHL hL'))) (hd.sub ?_)
        intro b o e
        obtain ⟨y1, y2, y3⟩ := nw_some e
        exact new_of y2 y3
      · exact Sm.list hs hl (by have := base_ge m'; rw [four]; omega)
    refine ⟨x, rfl, ite2 (fun c => ite2 (fun c2 => ?_) (fun c2 => ?_)) (fun c => ?_)⟩
    · -- a tuple
      have hpos : 0 < m := hm0.mp (of_decide_eq_true c2)
      refine ⟨p, l, n + 1, 4, rfl, f1, by omega, by decide, by decide, ?_⟩
      intro j H2 j0 j1 f2 k2
      refine ⟨j, rfl, by omega, by omega, ?_⟩
      intro L hL
      refine thing j.toNat _ (n + 2) H2 (by omega) hpos f2 (by omega) (k1.trans k2) L hL ?_
      intro G' acc ds n' m' em hL' hd hs hl hn' f' k' hHL
      subst em
      refine ⟨L, rfl, acc, .inl ⟨.inl (.inl hL'), fun q hq' => k (.ref q) (.tuple ds) _ n' ?_ ?_ hn' (f'.same (same_upd hq')) (k'.trans (.of (same_upd hq')))⟩⟩
      · have nL : ∀ b, b ≠ L → True := fun _ _ => trivial
        refine .tup (.inl (.inl (new_of (k'.back f' hq') upd_same))) (hd.sub ?_)
        intro b o e
        obtain ⟨y1, y2, y3⟩ := nw_some e
        exact new_of y2 (same_upd hq' _ _ y3)
      · exact Sm.tuple hs hl (by have := base_ge m'; rw [four]; omega)
    all_goals repeat' (first
      | exact lst
      | exact (Bool.false_ne_true ‹false = true›).elim
      | exact dict (hm0.mp (of_decide_eq_true ‹_›))
      | exact list (hm0.mp (of_decide_eq_true ‹_›))
      | exact ite2 (fun _ => dict (hm0.mp (of_decide_eq_true ‹_›))) (fun _ => lst)
      | refine ite2 (fun c => ?_) (fun c => ?_)
      | refine ⟨rfl, ?_⟩)
end
end C01
namespace C01
open PySem PySem.Spec PyProof.Rows L2 Lay
section
variable {P : Program} {w : World} {K : PySem.W.Frag} {mg : Str → Option Value} {base : Heap}
structure Gm (mg : Str → Option Value) (x : Str) (C : Addr) : Prop where
  gm : mg x = some (.ref C)
def tab (i j : Nat) : Bool := i == j || (i == 1 && j == 0) || (i == 4 && j == 3) || j == 13
structure Errs (P : Program) (w : World) (K : PySem.W.Frag) (mg : Str → Option Value) (base : Heap) (Cs : Nat → Addr) : Prop where
  D_NoStore : Own P w K mg base 1 "NoStore" (Cs 0) ["word"] (spIni (Cs 0) fun v => [("word", v)])
  D_Ring : Own P w K mg base 1 "Ring" (Cs 1) ["names"] (spIni (Cs 1) fun v => [("names", v), ("word", .str "ring")])
  D_NoLot : Own P w K mg base 1 "NoLot" (Cs 2) ["names"] (spIni (Cs 2) fun v => [("names", v)])
  D_NoEdit : Own P w K mg base 1 "NoEdit" (Cs 3) ["word"] (spIni (Cs 3) fun v => [("word", v)])
  D_Noticed : Own P w K mg base 1 "Noticed" (Cs 4) ["stranger"] (spIni (Cs 4) fun v => [("stranger", v), ("word", .str "noticed")])
  D_NoContext : Own P w K mg base 1 "NoContext" (Cs 5) ["word"] (spIni (Cs 5) fun v => [("word", v)])
  D_NoModule : Own P w K mg base 1 "NoModule" (Cs 6) ["part"] (spIni (Cs 6) fun v => [("part", v)])
  D_NoWrite : Own P w K mg base 1 "NoWrite" (Cs 7) ["names"] (spIni (Cs 7) fun v => [("names", v)])
  D_NotHeld : Own P w K mg base 1 "NotHeld" (Cs 8) ["handle"] (spIni (Cs 8) fun v => [("handle", v)])
  D_TooMany : Own P w K mg base 1 "TooMany" (Cs 9) ["limit"] (spIni (Cs 9) fun v => [("limit", v)])
  D_InvalidText : Own0 K mg "InvalidText" (Cs 10)
  D_InvalidCommand : Own0 K mg "InvalidCommand" (Cs 11)
  D_NothingDone : Own0 K mg "NothingDone" (Cs 12)
  D_HeldError : Gm mg "HeldError" (Cs 13)
  hK : IsK K
  is : ∀ i, i < 13 → IsC K (Cs i)
  kit : ∀ i, i < 13 → ∀ j, j < 14 → PySem.W.kitOne K (.ref (Cs i)) (.ref (Cs j)) = some (tab i j)
  kitE : ∀ i, i < 13 → PySem.W.kitOne K (.ref (Cs i)) (.type "Exception") = some true
  exm : ∀ i, i < 13 → PySem.W.exmOne K (.ref (Cs i)) (.ref (Cs 13)) = some true
  nof : ∀ i, i < 10 → ∀ f ∈ (["word", "names", "stranger", "part", "handle", "limit"] : List Str), PySem.W.findIn K (.ref (Cs i)) f = some none
variable {Cs : Nat → Addr}
theorem isE_ok (ER : Errs P w K mg base Cs) {H : Hp} {a : Addr} {i : Nat} {d : Option Addr} {Q : VK} (hi : i < 13) (ea : H a = some (exo a (Cs i) d)) (hd : DictAt H d) {j : Nat} (hj : j < 14)
    (h : Q (.bl (tab i j)) H) : rIsE K [.ref a, .ref (Cs j)] H Q :=
  ⟨a, Cs i, d, _, _, tab i j, rfl, .own _, ER.is i hi, ea, hd, ER.kit i hi j hj, h⟩
theorem isE_ex (ER : Errs P w K mg base Cs) {H : Hp} {a : Addr} {i : Nat} {d : Option Addr} {Q : VK} (hi : i < 13) (ea : H a = some (exo a (Cs i) d)) (hd : DictAt H d)
    (h : Q (.bl true) H) : rIsE K [.ref a, .ty "Exception"] H Q :=
  ⟨a, Cs i, d, _, _, true, rfl, .ty _, ER.is i hi, ea, hd, ER.kitE i hi, h⟩
def kindsL (i : Nat) : List V := [.bl (tab i 0), .bl (tab i 1), .bl (tab i 2), .bl (tab i 3), .bl (tab i 4), .bl (tab i 5), .bl (tab i 6), .bl (tab i 7),
  .bl (tab i 8), .bl (tab i 9), .bl (tab i 10), .bl (tab i 11), .bl (tab i 12), .bl (tab i 13), .bl true]
theorem _root_.Lay.DictAt.same {H G : Hp} {d : Option Addr} (h : DictAt H d) (s : Same H G) : DictAt G d := by
  intro dx e
  obtain ⟨fs, q⟩ := h dx e
  rcases q with q | q
  · exact ⟨fs, .inl (s _ _ q)⟩
  · exact ⟨fs, .inr (s _ _ q)⟩
def sp_kinds (Cs : Nat → Addr) : Sp := fun vs H Q _ => ∃ (a : Addr) (i : Nat) (d : Option Addr), vs = [.ref a] ∧ i < 13 ∧ H a = some (exo a (Cs i) d) ∧ DictAt H d ∧
  ∀ H' l, Same H H' → H' l = some (.lst (kindsL i)) → Q (.ref l) H'
theorem ok_law_kinds {f : Addr} {fd : FuncData} (F : Fun K "_law_kinds" "_law_kinds" s_law_kinds f fd) (z_isinstance : mg "isinstance" = none) (z_Exception : mg "Exception" = none)
    (ER : Errs P w K mg base Cs) : FnG P w K mg base CX0 1 f fd ["_law_e"] (sp_kinds Cs) := by
  refine okG F sc_law_kinds (fun vs H Q E h => ?_) (fun cdv A outer s H vs Q E hr hq h => ?_)
  · obtain ⟨a, i, d, rfl, _⟩ := h
    rfl
  · obtain ⟨a, i, d, rfl, hi, ea, hd, k⟩ := h
    have nd := sc_law_kinds.nd
    have D_NoStore := ER.D_NoStore
    have D_Ring := ER.D_Ring
    have D_NoLot := ER.D_NoLot
    have D_NoEdit := ER.D_NoEdit
    have D_Noticed := ER.D_Noticed
    have D_NoContext := ER.D_NoContext
    have D_NoModule := ER.D_NoModule
    have D_NoWrite := ER.D_NoWrite
    have D_NotHeld := ER.D_NotHeld
    have D_TooMany := ER.D_TooMany
    have D_InvalidText := ER.D_InvalidText
    have D_InvalidCommand := ER.D_InvalidCommand
    have D_NothingDone := ER.D_NothingDone
    have D_HeldError := ER.D_HeldError
    have hK := ER.hK
    refine ⟨_, (pss_cons (ps_set (i := 1) nd rfl (Or.inl rfl) (pe_lst (pa_cons (pe_callB (call_isE hK) (by rfl) z_isinstance (by decide +kernel) (pa_cons (pv 0) (pa_cons (pe_gR D_NoStore.gm) pa_nil))) (pa_cons (pe_callB (call_isE hK) (by rfl) z_isinstance (by decide +kernel) (pa_cons (pv 0) (pa_cons (pe_gR D_Ring.gm) pa_nil))) (pa_cons (pe_callB (call_isE hK) (by rfl) z_isinstance (by decide +kernel) (pa_cons (pv 0) (pa_cons (pe_gR D_NoLot.gm) pa_nil))) (pa_cons (pe_callB (call_isE hK) (by rfl) z_isinstance (by decide +kernel) (pa_cons (pv 0) (pa_cons (pe_gR D_NoEdit.gm) pa_nil))) pa_nil))))))
      (pss_cons (ps_set (i := 1) nd rfl (Or.inl rfl) (pe_op op_cat (pv 1) (pe_lst (pa_cons (pe_callB (call_isE hK) (by rfl) z_isinstance (by decide +kernel) (pa_cons (pv 0) (pa_cons (pe_gR D_Noticed.gm) pa_nil))) (pa_cons (pe_callB (call_isE hK) (by rfl) z_isinstance (by decide +kernel) (pa_cons (pv 0) (pa_cons (pe_gR D_NoContext.gm) pa_nil))) (pa_cons (pe_callB (call_isE hK) (by rfl) z_isinstance (by decide +kernel) (pa_cons (pv 0) (pa_cons (pe_gR D_NoModule.gm) pa_nil))) (pa_cons (pe_callB (call_isE hK) (by rfl) z_isinstance (by decide +kernel) (pa_cons (pv 0) (pa_cons (pe_gR D_NoWrite.gm) pa_nil))) pa_nil)))))))
      (pss_cons (ps_set (i := 1) nd rfl (Or.inl rfl) (pe_op op_cat (pv 1) (pe_lst (pa_cons (pe_callB (call_isE hK) (by rfl) z_isinstance (by decide +kernel) (pa_cons (pv 0) (pa_cons (pe_gR D_NotHeld.gm) pa_nil))) (pa_cons (pe_callB (call_isE hK) (by rfl) z_isinstance (by decide +kernel) (pa_cons (pv 0) (pa_cons (pe_gR D_TooMany.gm) pa_nil))) (pa_cons (pe_callB (call_isE hK) (by rfl) z_isinstance (by decide +kernel) (pa_cons (pv 0) (pa_cons (pe_gR D_InvalidText.gm) pa_nil))) pa_nil))))))
      (pss_cons (ps_set (i := 1) nd rfl (Or.inl rfl) (pe_op op_cat (pv 1) (pe_lst (pa_cons (pe_callB (call_isE hK) (by rfl) z_isinstance (by decide +kernel) (pa_cons (pv 0) (pa_cons (pe_gR D_InvalidCommand.gm) pa_nil))) (pa_cons (pe_callB (call_isE hK) (by rfl) z_isinstance (by decide +kernel) (pa_cons (pv 0) (pa_cons (pe_gR D_NothingDone.gm) pa_nil))) (pa_cons (pe_callB (call_isE hK) (by rfl) z_isinstance (by decide +kernel) (pa_cons (pv 0) (pa_cons (pe_gR D_HeldError.gm) pa_nil))) pa_nil))))))
      (pss_one (ps_ret (pe_op op_cat (pv 1) (pe_lst (pa_cons (pe_callB (call_isE hK) (by rfl) z_isinstance (by decide +kernel) (pa_cons (pv 0) (pa_cons (pe_bltn (v := .ty "Exception") (u := .type "Exception") (by rfl) z_Exception (by decide +kernel) rfl) pa_nil))) pa_nil))))))))), ?_⟩
    simp only [tSeq, tAsg, gName, tVar, tC, tOp, tUn, tNil, tCons, tCall, tCB, tBM, tBM0, tSl, tNoPart, tPart, tRet, tRetN, tIf, tIfS, tB, tTest, tDrop, tNext, tTup, tLst, tAnd, tOr, tNot, tNotV, tYes, tIsN, tNotN, rI, rI0, rU, rEq, rNe, rPop, rAppend, rCat, rSetL, rIxL, rIxS, rSlL, tRevL, tFor_eq, tWhile_eq, tLc_eq, iList, iTup, iRng1, iRng2, iStr, iZip, gTup, gCons, gNil, gSub, L2.start, Lay.cx_K, CDiv, CDivN, CPow, List.map_cons, List.map_nil, List.length_cons, List.length_nil, List.replicate_succ, List.replicate_zero, List.cons_append, List.nil_append, List.append_nil, List.set_cons_zero, List.set_cons_succ, List.getElem?_cons_zero, List.getElem?_cons_succ, Option.some.injEq, exists_eq_left', V.int.injEq, V.str.injEq, V.ref.injEq, V.bl.injEq, List.cons.injEq, and_true, true_and, exists_and_left, exists_eq_left, exists_eq, and_assoc, Nat.reduceAdd, Nat.reduceSub, Nat.zero_add, exists_and_right, exists_const, L2.wipe, if_true, if_false, tBits, rLenK, rCopyK, rTupleK, N_law_kinds]
    have s0 : Same H H := Same.refl H
    refine isE_ok ER hi (s0 _ _ ea) (hd.same s0) (by decide) ?_
    refine isE_ok ER hi (s0 _ _ ea) (hd.same s0) (by decide) ?_
    refine isE_ok ER hi (s0 _ _ ea) (hd.same s0) (by decide) ?_
    refine isE_ok ER hi (s0 _ _ ea) (hd.same s0) (by decide) ?_
    refine ⟨line _, fun q0 h0 => ?_⟩
    have s1 := sameU (o := .lst ([V.bl (tab i 0), V.bl (tab i 1), V.bl (tab i 2), V.bl (tab i 3)] : List V)) s0 h0
    refine isE_ok ER hi (s1 _ _ ea) (hd.same s1) (by decide) ?_
    refine isE_ok ER hi (s1 _ _ ea) (hd.same s1) (by decide) ?_
    refine isE_ok ER hi (s1 _ _ ea) (hd.same s1) (by decide) ?_
    refine isE_ok ER hi (s1 _ _ ea) (hd.same s1) (by decide) ?_
    refine ⟨line _, fun p1 h1 => ⟨_, same_upd h1 _ _ upd_same, _, upd_same, line _ (by simp only [List.length_append, List.length_cons, List.length_nil]; omega), fun q1 g1 => ?_⟩⟩
    have s2 := sameU (o := .lst (([V.bl (tab i 0), V.bl (tab i 1), V.bl (tab i 2), V.bl (tab i 3)] : List V) ++ ([V.bl (tab i 4), V.bl (tab i 5), V.bl (tab i 6), V.bl (tab i 7)] : List V))) (sameU (o := .lst ([V.bl (tab i 4), V.bl (tab i 5), V.bl (tab i 6), V.bl (tab i 7)] : List V)) s1 h1) g1
    refine isE_ok ER hi (s2 _ _ ea) (hd.same s2) (by decide) ?_
    refine isE_ok ER hi (s2 _ _ ea) (hd.same s2) (by decide) ?_
    refine isE_ok ER hi (s2 _ _ ea) (hd.same s2) (by decide) ?_
    refine ⟨line _, fun p2 h2 => ⟨_, same_upd h2 _ _ upd_same, _, upd_same, line _ (by simp only [List.length_append, List.length_cons, List.length_nil]; omega), fun q2 g2 => ?_⟩⟩
    have s3 := sameU (o := .lst ((([V.bl (tab i 0), V.bl (tab i 1), V.bl (tab i 2), V.bl (tab i 3)] : List V) ++ ([V.bl (tab i 4), V.bl (tab i 5), V.bl (tab i 6), V.bl (tab i 7)] : List V)) ++ ([V.bl (tab i 8), V.bl (tab i 9), V.bl (tab i 10)] : List V))) (sameU (o := .lst ([V.bl (tab i 8), V.bl (tab i 9), V.bl (tab i 10)] : List V)) s2 h2) g2
    refine isE_ok ER hi (s3 _ _ ea) (hd.same s3) (by decide) ?_
    refine isE_ok ER hi (s3 _ _ ea) (hd.same s3) (by decide) ?_
    refine isE_ok ER hi (s3 _ _ ea) (hd.same s3) (by decide) ?_
    refine ⟨line _, fun p3 h3 => ⟨_, same_upd h3 _ _ upd_same, _, upd_same, line _ (by simp only [List.length_append, List.length_cons, List.length_nil]; omega), fun q3 g3 => ?_⟩⟩
    have s4 := sameU (o := .lst (((([V.bl (tab i 0), V.bl (tab i 1), V.bl (tab i 2), V.bl (tab i 3)] : List V) ++ ([V.bl (tab i 4), V.bl (tab i 5), V.bl (tab i 6), V.bl (tab i 7)] : List V)) ++ ([V.bl (tab i 8), V.bl (tab i 9), V.bl (tab i 10)] : List V)) ++ ([V.bl (tab i 11), V.bl (tab i 12), V.bl (tab i 13)] : List V))) (sameU (o := .lst ([V.bl (tab i 11), V.bl (tab i 12), V.bl (tab i 13)] : List V)) s3 h3) g3
    refine isE_ex ER hi (s4 _ _ ea) (hd.same s4) ?_
    refine ⟨line _, fun p4 h4 => ⟨_, same_upd h4 _ _ upd_same, _, upd_same, line _ (by simp only [List.length_append, List.length_cons, List.length_nil]; omega), fun q4 g4 => ?_⟩⟩
    have s5 := sameU (o := .lst ((((([V.bl (tab i 0), V.bl (tab i 1), V.bl (tab i 2), V.bl (tab i 3)] : List V) ++ ([V.bl (tab i 4), V.bl (tab i 5), V.bl (tab i 6), V.bl (tab i 7)] : List V)) ++ ([V.bl (tab i 8), V.bl (tab i 9), V.bl (tab i 10)] : List V)) ++ ([V.bl (tab i 11), V.bl (tab i 12), V.bl (tab i 13)] : List V)) ++ ([V.bl true] : List V))) (sameU (o := .lst ([V.bl true] : List V)) s4 h4) g4
    exact k _ q4 s5 upd_same
def sp_kindsP (Cs : Nat → Addr) (a : Addr) (cls : Value) (d : Option Addr) : Sp := fun vs H Q _ => ∃ (i : Nat), vs = [.ref a] ∧ i < 13 ∧ cls = .ref (Cs i) ∧ DictAt H d ∧
  ∀ H' l, Same H H' → H' l = some (.lst (kindsL i)) → Q (.ref l) H'
theorem isP_ok (ER : Errs P w K mg base Cs) {H : Hp} {p : Addr × Obj} {i : Nat} {Q : VK} (hi : i < 13) (hc : p.2.cls = .ref (Cs i)) (hn : PySem.W.notCls p.2 = true)
    (hd : DictAt H p.2.dict) {j : Nat} (hj : j < 14)
    (h : Q (.bl (tab i j)) H) : rIsP K p [.ref p.1, .ref (Cs j)] H Q :=
  ⟨Cs i, _, _, tab i j, rfl, .own _, ER.is i hi, hc, hn, hd, ER.kit i hi j hj, h⟩
theorem isP_ex (ER : Errs P w K mg base Cs) {H : Hp} {p : Addr × Obj} {i : Nat} {Q : VK} (hi : i < 13) (hc : p.2.cls = .ref (Cs i)) (hn : PySem.W.notCls p.2 = true)
    (hd : DictAt H p.2.dict) (h : Q (.bl true) H) : rIsP K p [.ref p.1, .ty "Exception"] H Q :=
  ⟨Cs i, _, _, true, rfl, .ty _, ER.is i hi, hc, hn, hd, ER.kitE i hi, h⟩
theorem okP_law_kinds {f : Addr} {fd : FuncData} (F : Fun K "_law_kinds" "_law_kinds" s_law_kinds f fd) (z_isinstance : mg "isinstance" = none) (z_Exception : mg "Exception" = none)
    (ER : Errs P w K mg base Cs) : FnP P w K mg base 1 f fd ["_law_e"] (fun p => sp_kindsP Cs p.1 p.2.cls p.2.dict) := by
  refine okP F sc_law_kinds (fun p vs H Q E h => ?_) (fun cdv A outer s H vs Q p hr hf h => ?_)
  · obtain ⟨i, rfl, _⟩ := h
    rfl
  · obtain ⟨i, rfl, hi, hc, hd, k⟩ := h
    have nd := sc_law_kinds.nd
    have D_NoStore := ER.D_NoStore
    have D_Ring := ER.D_Ring
    have D_NoLot := ER.D_NoLot
    have D_NoEdit := ER.D_NoEdit
    have D_Noticed := ER.D_Noticed
    have D_NoContext := ER.D_NoContext
    have D_NoModule := ER.D_NoModule
    have D_NoWrite := ER.D_NoWrite
    have D_NotHeld := ER.D_NotHeld
    have D_TooMany := ER.D_TooMany
    have D_InvalidText := ER.D_InvalidText
    have D_InvalidCommand := ER.D_InvalidCommand
    have D_NothingDone := ER.D_NothingDone
    have D_HeldError := ER.D_HeldError
    have hK := ER.hK
    have hn : PySem.W.notCls p.2 = true := by
      obtain ⟨vs, e⟩ := hf
      unfold PySem.W.notCls
      rw [e]
    refine ⟨_, (pss_cons (ps_set (i := 1) nd rfl (Or.inl rfl) (pe_lst (pa_cons (pe_callB (call_isP (p := p) hK (List.mem_cons_self ..)) (by rfl) z_isinstance (by decide +kernel) (pa_cons (pv 0) (pa_cons (pe_gR D_NoStore.gm) pa_nil))) (pa_cons (pe_callB (call_isP (p := p) hK (List.mem_cons_self ..)) (by rfl) z_isinstance (by decide +kernel) (pa_cons (pv 0) (pa_cons (pe_gR D_Ring.gm) pa_nil))) (pa_cons (pe_callB (call_isP (p := p) hK (List.mem_cons_self ..)) (by rfl) z_isinstance (by decide +kernel) (pa_cons (pv 0) (pa_cons (pe_gR D_NoLot.gm) pa_nil))) (pa_cons (pe_callB (call_isP (p := p) hK (List.mem_cons_self ..)) (by rfl) z_isinstance (by decide +kernel) (pa_cons (pv 0) (pa_cons (pe_gR D_NoEdit.gm) pa_nil))) pa_nil))))))
      (pss_cons (ps_set (i := 1) nd rfl (Or.inl rfl) (pe_op op_cat (pv 1) (pe_lst (pa_cons (pe_callB (call_isP (p := p) hK (List.mem_cons_self ..)) (by rfl) z_isinstance (by decide +kernel) (pa_cons (pv 0) (pa_cons (pe_gR D_Noticed.gm) pa_nil))) (pa_cons (pe_callB (call_isP (p := p) hK (List.mem_cons_self ..)) (by rfl) z_isinstance (by decide +kernel) (pa_cons (pv 0) (pa_cons (pe_gR D_NoContext.gm) pa_nil))) (pa_cons (pe_callB (call_isP (p := p) hK (List.mem_cons_self ..)) (by rfl) z_isinstance (by decide +kernel) (pa_cons (pv 0) (pa_cons (pe_gR D_NoModule.gm) pa_nil))) (pa_cons (pe_callB (call_isP (p := p) hK (List.mem_cons_self ..)) (by rfl) z_isinstance (by decide +kernel) (pa_cons (pv 0) (pa_cons (pe_gR D_NoWrite.gm) pa_nil))) pa_nil)))))))
      (pss_cons (ps_set (i := 1) nd rfl (Or.inl rfl) (pe_op op_cat (pv 1) (pe_lst (pa_cons (pe_callB (call_isP (p := p) hK (List.mem_cons_self ..)) (by rfl) z_isinstance (by decide +kernel) (pa_cons (pv 0) (pa_cons (pe_gR D_NotHeld.gm) pa_nil))) (pa_cons (pe_callB (call_isP (p := p) hK (List.mem_cons_self ..)) (by rfl) z_isinstance (by decide +kernel) (pa_cons (pv 0) (pa_cons (pe_gR D_TooMany.gm) pa_nil))) (pa_cons (pe_callB (call_isP (p := p) hK (List.mem_cons_self ..)) (by rfl) z_isinstance (by decide +kernel) (pa_cons (pv 0) (pa_cons (pe_gR D_InvalidText.gm) pa_nil))) pa_nil))))))
      (pss_cons (ps_set (i := 1) nd rfl (Or.inl rfl) (pe_op op_cat (pv 1) (pe_lst (pa_cons (pe_callB (call_isP (p := p) hK (List.mem_cons_self ..)) (by rfl) z_isinstance (by decide +kernel) (pa_cons (pv 0) (pa_cons (pe_gR D_InvalidCommand.gm) pa_nil))) (pa_cons (pe_callB (call_isP (p := p) hK (List.mem_cons_self ..)) (by rfl) z_isinstance (by decide +kernel) (pa_cons (pv 0) (pa_cons (pe_gR D_NothingDone.gm) pa_nil))) (pa_cons (pe_callB (call_isP (p := p) hK (List.mem_cons_self ..)) (by rfl) z_isinstance (by decide +kernel) (pa_cons (pv 0) (pa_cons (pe_gR D_HeldError.gm) pa_nil))) pa_nil))))))
      (pss_one (ps_ret (pe_op op_cat (pv 1) (pe_lst (pa_cons (pe_callB (call_isP (p := p) hK (List.mem_cons_self ..)) (by rfl) z_isinstance (by decide +kernel) (pa_cons (pv 0) (pa_cons (pe_bltn (v := .ty "Exception") (u := .type "Exception") (by rfl) z_Exception (by decide +kernel) rfl) pa_nil))) pa_nil))))))))), ?_⟩
    simp only [tSeq, tAsg, gName, tVar, tC, tOp, tUn, tNil, tCons, tCall, tCB, tBM, tBM0, tSl, tNoPart, tPart, tRet, tRetN, tIf, tIfS, tB, tTest, tDrop, tNext, tTup, tLst, tAnd, tOr, tNot, tNotV, tYes, tIsN, tNotN, rI, rI0, rU, rEq, rNe, rPop, rAppend, rCat, rSetL, rIxL, rIxS, rSlL, tRevL, tFor_eq, tWhile_eq, tLc_eq, iList, iTup, iRng1, iRng2, iStr, iZip, gTup, gCons, gNil, gSub, L2.start, Lay.cx_K, CDiv, CDivN, CPow, List.map_cons, List.map_nil, List.length_cons, List.length_nil, List.replicate_succ, List.replicate_zero, List.cons_append, List.nil_append, List.append_nil, List.set_cons_zero, List.set_cons_succ, List.getElem?_cons_zero, List.getElem?_cons_succ, Option.some.injEq, exists_eq_left', V.int.injEq, V.str.injEq, V.ref.injEq, V.bl.injEq, List.cons.injEq, and_true, true_and, exists_and_left, exists_eq_left, exists_eq, and_assoc, Nat.reduceAdd, Nat.reduceSub, Nat.zero_add, exists_and_right, exists_const, L2.wipe, if_true, if_false, tBits, rLenK, rCopyK, rTupleK, N_law_kinds]
    have s0 : Same H H := Same.refl H
    refine isP_ok ER hi hc hn (hd.same s0) (by decide) ?_
    refine isP_ok ER hi hc hn (hd.same s0) (by decide) ?_
    refine isP_ok ER hi hc hn (hd.same s0) (by decide) ?_
    refine isP_ok ER hi hc hn (hd.same s0) (by decide) ?_
    refine ⟨line _, fun q0 h0 => ?_⟩
    have s1 := sameU (o := .lst ([V.bl (tab i 0), V.bl (tab i 1), V.bl (tab i 2), V.bl (tab i 3)] : List V)) s0 h0
    refine isP_ok ER hi hc hn (hd.same s1) (by decide) ?_
    refine isP_ok ER hi hc hn (hd.same s1) (by decide) ?_
    refine isP_ok ER hi hc hn (hd.same s1) (by decide) ?_
    refine isP_ok ER hi hc hn (hd.same s1) (by decide) ?_
    refine ⟨line _, fun p1 h1 => ⟨_, same_upd h1 _ _ upd_same, _, upd_same, line _ (by simp only [List.length_append, List.length_cons, List.length_nil]; omega), fun q1 g1 => ?_⟩⟩
    have s2 := sameU (o := .lst (([V.bl (tab i 0), V.bl (tab i 1), V.bl (tab i 2), V.bl (tab i 3)] : List V) ++ ([V.bl (tab i 4), V.bl (tab i 5), V.bl (tab i 6), V.bl (tab i 7)] : List V))) (sameU (o := .lst ([V.bl (tab i 4), V.bl (tab i 5), V.bl (tab i 6), V.bl (tab i 7)] : List V)) s1 h1) g1
    refine isP_ok ER hi hc hn (hd.same s2) (by decide) ?_
    refine isP_ok ER hi hc hn (hd.same s2) (by decide) ?_
    refine isP_ok ER hi hc hn (hd.same s2) (by decide) ?_
    refine ⟨line _, fun p2 h2 => ⟨_, same_upd h2 _ _ upd_same, _, upd_same, line _ (by simp only [List.length_append, List.length_cons, List.length_nil]; omega), fun q2 g2 => ?_⟩⟩
    have s3 := sameU (o := .lst ((([V.bl (tab i 0), V.bl (tab i 1), V.bl (tab i 2), V.bl (tab i 3)] : List V) ++ ([V.bl (tab i 4), V.bl (tab i 5), V.bl (tab i 6), V.bl (tab i 7)] : List V)) ++ ([V.bl (tab i 8), V.bl (tab i 9), V.bl (tab i 10)] : List V))) (sameU (o := .lst ([V.bl (tab i 8), V.bl (tab i 9), V.bl (tab i 10)] : List V)) s2 h2) g2
    refine isP_ok ER hi hc hn (hd.same s3) (by decide) ?_
    refine isP_ok ER hi hc hn (hd.same s3) (by decide) ?_
    refine isP_ok ER hi hc hn (hd.same s3) (by decide) ?_
    refine ⟨line _, fun p3 h3 => ⟨_, same_upd h3 _ _ upd_same, _, upd_same, line _ (by simp only [List.length_append, List.length_cons, List.length_nil]; omega), fun q3 g3 => ?_⟩⟩
    have s4 := sameU (o := .lst (((([V.bl (tab i 0), V.bl (tab i 1), V.bl (tab i 2), V.bl (tab i 3)] : List V) ++ ([V.bl (tab i 4), V.bl (tab i 5), V.bl (tab i 6), V.bl (tab i 7)] : List V)) ++ ([V.bl (tab i 8), V.bl (tab i 9), V.bl (tab i 10)] : List V)) ++ ([V.bl (tab i 11), V.bl (tab i 12), V.bl (tab i 13)] : List V))) (sameU (o := .lst ([V.bl (tab i 11), V.bl (tab i 12), V.bl (tab i 13)] : List V)) s3 h3) g3
    refine isP_ex ER hi hc hn (hd.same s4) ?_
    refine ⟨line _, fun p4 h4 => ⟨_, same_upd h4 _ _ upd_same, _, upd_same, line _ (by simp only [List.length_append, List.length_cons, List.length_nil]; omega), fun q4 g4 => ?_⟩⟩
    have s5 := sameU (o := .lst ((((([V.bl (tab i 0), V.bl (tab i 1), V.bl (tab i 2), V.bl (tab i 3)] : List V) ++ ([V.bl (tab i 4), V.bl (tab i 5), V.bl (tab i 6), V.bl (tab i 7)] : List V)) ++ ([V.bl (tab i 8), V.bl (tab i 9), V.bl (tab i 10)] : List V)) ++ ([V.bl (tab i 11), V.bl (tab i 12), V.bl (tab i 13)] : List V)) ++ ([V.bl true] : List V))) (sameU (o := .lst ([V.bl true] : List V)) s4 h4) g4
    exact k _ q4 s5 upd_same
end
end C01
namespace C01
open PySem PySem.Spec PyProof.Rows L2 Lay
section
variable {P : Program} {w : World} {K : PySem.W.Frag} {mg : Str → Option Value} {base : Heap}
def ownL (n i : Nat) : List V := (List.range n).map fun k => .bl (decide (k = i))
def dueL (i : Nat) : List V :=
  (let a := ownL 13 i
   let b := if decide ((i : Int) = 1) = true then a.set 0 (.bl true) else a
   if decide ((i : Int) = 4) = true then b.set 3 (.bl true) else b) ++ [.bl true, .bl true]
theorem due_eq (i : Nat) (h : i < 13) : dueL i = kindsL i := by
  have : i = 0 ∨ i = 1 ∨ i = 2 ∨ i = 3 ∨ i = 4 ∨ i = 5 ∨ i = 6 ∨ i = 7 ∨ i = 8 ∨ i = 9 ∨ i = 10 ∨ i = 11 ∨ i = 12 := by omega
  rcases this with e | e | e | e | e | e | e | e | e | e | e | e | e <;> subst e <;> rfl
theorem ownL_len (n i : Nat) : (ownL n i).length = n := by simp [ownL]
def sp_due : Sp := fun vs H Q _ => ∃ i : Nat, vs = [.int i] ∧ i < 13 ∧ ∀ H' l, Same H H' → H' l = some (.lst (kindsL i)) → Q (.ref l) H'
theorem ok_law_due {f : Addr} {fd : FuncData} (F : Fun K "_law_due" "_law_due" s_law_due f fd) (z_range : mg "range" = none) :
    FnG P w K mg base CX0 1 f fd ["_law_which"] sp_due := by
  refine okG F sc_law_due (fun vs H Q E h => ?_) (fun cdv A outer s H vs Q E hr hq h => ?_)
  · obtain ⟨i, rfl, _⟩ := h
    rfl
  · obtain ⟨i, rfl, hi, k⟩ := h
    have nd := sc_law_due.nd
    refine ⟨_, (pss_cons (ps_setLc (i := 1) (own := [("_law_k", 2)]) (g := gName 2) rfl nd rfl rfl (sw_true rfl rfl rfl (by decide +kernel)) (pi_range1 (by rfl) z_range (pa_cons pe_int pa_nil)) (blkOk_by (own := [("_law_k", 2)]) (N := N_law_due) (sc := defScope s_law_due) (by decide +kernel)) (fun _ _ _ _ _ => (pg_name (i := 2) nd rfl (by first | exact Or.inl rfl | exact Or.inr rfl))) (fun _ _ _ _ _ => pts_nil) (fun _ _ _ _ _ => (pe_cmpR op_eq (pv 2) (pv 0) (nomark _))))
      (pss_cons (ps_if (pt_cmpR op_eq (pv 0) pe_int (nomark _)) (pss_one (ps_asg pe_bl (pg_sub (pv 1) pe_int set_list))) pss_nil)
      (pss_cons (ps_if (pt_cmpR op_eq (pv 0) pe_int (nomark _)) (pss_one (ps_asg pe_bl (pg_sub (pv 1) pe_int set_list))) pss_nil)
      (pss_one (ps_ret (pe_op op_cat (pv 1) (pe_lst (pa_cons pe_bl (pa_cons pe_bl pa_nil))))))))), ?_⟩
    simp only [tSeq, tAsg, gName, tVar, tC, tOp, tUn, tNil, tCons, tCall, tCB, tBM, tBM0, tSl, tNoPart, tPart, tRet, tRetN, tIf, tIfS, tB, tTest, tDrop, tNext, tTup, tLst, tAnd, tOr, tNot, tNotV, tYes, tIsN, tNotN, rI, rI0, rU, rEq, rNe, rPop, rAppend, rCat, rSetL, rIxL, rIxS, rSlL, tRevL, tFor_eq, tWhile_eq, tLc_eq, iList, iTup, iRng1, iRng2, iStr, iZip, gTup, gCons, gNil, gSub, L2.start, Lay.cx_K, CDiv, CDivN, CPow, List.map_cons, List.map_nil, List.length_cons, List.length_nil, List.replicate_succ, List.replicate_zero, List.cons_append, List.nil_append, List.append_nil, List.set_cons_zero, List.set_cons_succ, List.getElem?_cons_zero, List.getElem?_cons_succ, Option.some.injEq, exists_eq_left', V.int.injEq, V.str.injEq, V.ref.injEq, V.bl.injEq, List.cons.injEq, and_true, true_and, exists_and_left, exists_eq_left, exists_eq, and_assoc, Nat.reduceAdd, Nat.reduceSub, Nat.zero_add, exists_and_right, exists_const, L2.wipe, if_true, if_false, tBits, rLenK, rCopyK, rTupleK, N_law_due]
    refine ⟨by decide, by decide, ?_⟩
    intro L hL
    refine CLoop.range (fun j acc G => acc = ownL j i ∧ Same H G ∧ j ≤ 13) ⟨rfl, same_upd hL, by decide⟩ upd_same ?_ ?_
    · rintro j acc G hj ⟨rfl, s1, _⟩ hG N hN
      simp only [tSeq, tAsg, gName, tVar, tC, tOp, tUn, tNil, tCons, tCall, tCB, tBM, tBM0, tSl, tNoPart, tPart, tRet, tRetN, tIf, tIfS, tB, tTest, tDrop, tNext, tTup, tLst, tAnd, tOr, tNot, tNotV, tYes, tIsN, tNotN, rI, rI0, rU, rEq, rNe, rPop, rAppend, rCat, rSetL, rIxL, rIxS, rSlL, tRevL, tFor_eq, tWhile_eq, tLc_eq, iList, iTup, iRng1, iRng2, iStr, iZip, gTup, gCons, gNil, gSub, L2.start, Lay.cx_K, CDiv, CDivN, CPow, List.map_cons, List.map_nil, List.length_cons, List.length_nil, List.replicate_succ, List.replicate_zero, List.cons_append, List.nil_append, List.append_nil, List.set_cons_zero, List.set_cons_succ, List.getElem?_cons_zero, List.getElem?_cons_succ, Option.some.injEq, exists_eq_left', V.int.injEq, V.str.injEq, V.ref.injEq, V.bl.injEq, List.cons.injEq, and_true, true_and, exists_and_left, exists_eq_left, exists_eq, and_assoc, Nat.reduceAdd, Nat.reduceSub, Nat.zero_add, exists_and_right, exists_const, L2.wipe, if_true, if_false, tBits, rLenK, rCopyK, rTupleK]
      have e : ownL (j + 1) i = ownL j i ++ [.bl (decide ((0 : Int) + j = i))] := by
        unfold ownL
        rw [List.range_succ, List.map_append]
        congr 1
        simp only [List.map_cons, List.map_nil]
        congr 2
        exact decide_eq_decide.mpr (by omega)
      refine ⟨rfl, _, hG, ltline _ (by rw [ownL_len]; omega), hN _ _ ⟨e.symm, sameU' s1 hL, by omega⟩ upd_same⟩
    · rintro acc G ⟨rfl, s1, _⟩ hG
      simp only [tSeq, tAsg, gName, tVar, tC, tOp, tUn, tNil, tCons, tCall, tCB, tBM, tBM0, tSl, tNoPart, tPart, tRet, tRetN, tIf, tIfS, tB, tTest, tDrop, tNext, tTup, tLst, tAnd, tOr, tNot, tNotV, tYes, tIsN, tNotN, rI, rI0, rU, rEq, rNe, rPop, rAppend, rCat, rSetL, rIxL, rIxS, rSlL, tRevL, tFor_eq, tWhile_eq, tLc_eq, iList, iTup, iRng1, iRng2, iStr, iZip, gTup, gCons, gNil, gSub, L2.start, Lay.cx_K, CDiv, CDivN, CPow, List.map_cons, List.map_nil, List.length_cons, List.length_nil, List.replicate_succ, List.replicate_zero, List.cons_append, List.nil_append, List.append_nil, List.set_cons_zero, List.set_cons_succ, List.getElem?_cons_zero, List.getElem?_cons_succ, Option.some.injEq, exists_eq_left', V.int.injEq, V.str.injEq, V.ref.injEq, V.bl.injEq, List.cons.injEq, and_true, true_and, exists_and_left, exists_eq_left, exists_eq, and_assoc, Nat.reduceAdd, Nat.reduceSub, Nat.zero_add, exists_and_right, exists_const, L2.wipe, if_true, if_false, tBits, rLenK, rCopyK, rTupleK]
      have fin : ∀ (G2 : Hp) (x : List V), G2 L = some (.lst x) → Same H G2 → x ++ [V.bl true, V.bl true] = kindsL i → (2 ≤ sizeLine ∧ ∀ p, G2 p = none →
          ∃ x4, upd G2 p (.lst [V.bl true, V.bl true]) L = some (.lst x4) ∧ ∃ x5, upd G2 p (.lst [V.bl true, V.bl true]) p = some (.lst x5) ∧
            x4.length + x5.length ≤ sizeLine ∧ ∀ p1, upd G2 p (.lst [V.bl true, V.bl true]) p1 = none →
              Q (.ref p1) (upd (upd G2 p (.lst [V.bl true, V.bl true])) p1 (.lst (x4 ++ x5)))) := by
        intro G2 x hx s e
        refine ⟨line _, fun p hp => ⟨x, same_upd hp _ _ hx, _, upd_same, line _ ?_, fun p1 hp1 => ?_⟩⟩
        · have := congrArg List.length e
          rw [List.length_append] at this
          have z : (kindsL i).length = 15 := rfl
          omega
        · rw [e]
          exact k _ p1 (sameU (sameU s hp) hp1) upd_same
      have de := due_eq i hi
      unfold dueL at de
      refine ⟨rfl, ite2 (fun c1 => ?_) (fun c1 => ?_)⟩
      · refine ⟨_, hG, 0, by rw [ownL_len]; rfl, rfl, ite2 (fun c2 => ?_) (fun c2 => ?_)⟩
        · have a1 := of_decide_eq_true c1
          have a2 := of_decide_eq_true c2
          omega
        · refine fin _ _ upd_same (sameU' s1 hL) ?_
          simp only [c1, c2, if_true] at de
          rw [← de]
          rfl
      · refine ⟨rfl, ite2 (fun c2 => ?_) (fun c2 => ?_)⟩
        · refine ⟨_, hG, 3, by rw [ownL_len]; rfl, ?_⟩
          refine fin _ _ upd_same (sameU' s1 hL) ?_
          simp only [c1, c2, if_true] at de
          rw [← de]
          rfl
        · refine fin _ _ hG s1 ?_
          simp only [c1, c2] at de
          rw [← de]
          rfl
end
end C01
namespace C01
open PySem PySem.Spec PyProof.Rows L2 Lay
section
variable {P : Program} {w : World} {K : PySem.W.Frag} {mg : Str → Option Value} {base : Heap} {Cs : Nat → Addr}
theorem mk_ini {C : Addr} {fs : V → List (Str × V)} {a : Addr} {v : V} {H1 : Hp} {G : Hp → Prop} (ha : H1 a = none)
    (h : ∀ H' dx, H1 dx = none → dx ≠ a → H' a = some (exo a C (some dx)) → H' dx = some (exd dx (fs v)) → Same H1 H' →
      (∀ b, b ≠ a → b ≠ dx → H' b = H1 b) → G H') :
    spIni C fs [.ref a, v] (upd H1 a (exo a C none)) (fun v H2 => v = .non ∧ G H2) E0 := mk_spIni (G := fun _ H2 => G H2) ha h
theorem dictAt {G : Hp} {dx : Addr} {fs : List (Str × V)} (h : G dx = some (exd dx fs)) : DictAt G (some dx) := by
  intro d e
  cases e
  exact ⟨fs, .inl h⟩
def heldL (i : Nat) (v : V) : List V := if i = 1 then [v, .str "ring"] else if i = 4 then [v, .str "noticed"] else if i < 10 then [v] else []
def sp_made (Cs : Nat → Addr) : Sp := fun vs H Q _ => ∃ (i : Nat) (v : V), vs = [.int i, v] ∧ i < 13 ∧ ∀ H' q r a d, Same H H' → H' q = some (.lst [.ref a, .ref r]) →
  H' r = some (.lst (heldL i v)) → H' a = some (exo a (Cs i) d) → DictAt H' d → Q (.ref q) H'
theorem ok_law_made {f : Addr} {fd : FuncData} (F : Fun K "_law_made" "_law_made" s_law_made f fd) (ER : Errs P w K mg base Cs) :
    FnG P w K mg base CX0 3 f fd ["_law_which", "_law_thing_here"] (sp_made Cs) := by
  refine okG F sc_law_made (fun vs H Q E h => ?_) (fun cdv A outer s H vs Q E hr hq h => ?_)
  · obtain ⟨i, v, rfl, _⟩ := h
    rfl
  · obtain ⟨i, v, rfl, hi, k⟩ := h
    have nd := sc_law_made.nd
    have D_NoStore := ER.D_NoStore
    have D_Ring := ER.D_Ring
    have D_NoLot := ER.D_NoLot
    have D_NoEdit := ER.D_NoEdit
    have D_Noticed := ER.D_Noticed
    have D_NoContext := ER.D_NoContext
    have D_NoModule := ER.D_NoModule
    have D_NoWrite := ER.D_NoWrite
    have D_NotHeld := ER.D_NotHeld
    have D_TooMany := ER.D_TooMany
    have D_InvalidText := ER.D_InvalidText
    have D_InvalidCommand := ER.D_InvalidCommand
    have D_NothingDone := ER.D_NothingDone
    have D_HeldError := ER.D_HeldError
    refine ⟨_, (pss_cons (ps_if (pt_cmpR op_eq (pv 0) pe_int (nomark _)) (pss_cons (ps_set (i := 2) nd rfl (Or.inl rfl) (pe_mkx D_NoStore (hr.mono (by decide)) hq (pa_cons (pv 1) pa_nil)))
        (pss_one (ps_ret (pe_lst (pa_cons (pv 2) (pa_cons (pe_lst (pa_cons (pe_xf (pv 2)) pa_nil)) pa_nil)))))) pss_nil)
      (pss_cons (ps_if (pt_cmpR op_eq (pv 0) pe_int (nomark _)) (pss_cons (ps_set (i := 2) nd rfl (Or.inl rfl) (pe_mkx D_Ring (hr.mono (by decide)) hq (pa_cons (pv 1) pa_nil)))
        (pss_one (ps_ret (pe_lst (pa_cons (pv 2) (pa_cons (pe_lst (pa_cons (pe_xf (pv 2)) (pa_cons (pe_xf (pv 2)) pa_nil))) pa_nil)))))) pss_nil)
      (pss_cons (ps_if (pt_cmpR op_eq (pv 0) pe_int (nomark _)) (pss_cons (ps_set (i := 2) nd rfl (Or.inl rfl) (pe_mkx D_NoLot (hr.mono (by decide)) hq (pa_cons (pv 1) pa_nil)))
        (pss_one (ps_ret (pe_lst (pa_cons (pv 2) (pa_cons (pe_lst (pa_cons (pe_xf (pv 2)) pa_nil)) pa_nil)))))) pss_nil)
      (pss_cons (ps_if (pt_cmpR op_eq (pv 0) pe_int (nomark _)) (pss_cons (ps_set (i := 2) nd rfl (Or.inl rfl) (pe_mkx D_NoEdit (hr.mono (by decide)) hq (pa_cons (pv 1) pa_nil)))
        (pss_one (ps_ret (pe_lst (pa_cons (pv 2) (pa_cons (pe_lst (pa_cons (pe_xf (pv 2)) pa_nil)) pa_nil)))))) pss_nil)
      (pss_cons (ps_if (pt_cmpR op_eq (pv 0) pe_int (nomark _)) (pss_cons (ps_set (i := 2) nd rfl (Or.inl rfl) (pe_mkx D_Noticed (hr.mono (by decide)) hq (pa_cons (pv 1) pa_nil)))
        (pss_one (ps_ret (pe_lst (pa_cons (pv 2) (pa_cons (pe_lst (pa_cons (pe_xf (pv 2)) (pa_cons (pe_xf (pv 2)) pa_nil))) pa_nil)))))) pss_nil)
      (pss_cons (ps_if (pt_cmpR op_eq (pv 0) pe_int (nomark _)) (pss_cons (ps_set (i := 2) nd rfl (Or.inl rfl) (pe_mkx D_NoContext (hr.mono (by decide)) hq (pa_cons (pv 1) pa_nil)))
        (pss_one (ps_ret (pe_lst (pa_cons (pv 2) (pa_cons (pe_lst (pa_cons (pe_xf (pv 2)) pa_nil)) pa_nil)))))) pss_nil)
      (pss_cons (ps_if (pt_cmpR op_eq (pv 0) pe_int (nomark _)) (pss_cons (ps_set (i := 2) nd rfl (Or.inl rfl) (pe_mkx D_NoModule (hr.mono (by decide)) hq (pa_cons (pv 1) pa_nil)))
        (pss_one (ps_ret (pe_lst (pa_cons (pv 2) (pa_cons (pe_lst (pa_cons (pe_xf (pv 2)) pa_nil)) pa_nil)))))) pss_nil)
      (pss_cons (ps_if (pt_cmpR op_eq (pv 0) pe_int (nomark _)) (pss_cons (ps_set (i := 2) nd rfl (Or.inl rfl) (pe_mkx D_NoWrite (hr.mono (by decide)) hq (pa_cons (pv 1) pa_nil)))
        (pss_one (ps_ret (pe_lst (pa_cons (pv 2) (pa_cons (pe_lst (pa_cons (pe_xf (pv 2)) pa_nil)) pa_nil)))))) pss_nil)
      (pss_cons (ps_if (pt_cmpR op_eq (pv 0) pe_int (nomark _)) (pss_cons (ps_set (i := 2) nd rfl (Or.inl rfl) (pe_mkx D_NotHeld (hr.mono (by decide)) hq (pa_cons (pv 1) pa_nil)))
        (pss_one (ps_ret (pe_lst (pa_cons (pv 2) (pa_cons (pe_lst (pa_cons (pe_xf (pv 2)) pa_nil)) pa_nil)))))) pss_nil)
      (pss_cons (ps_if (pt_cmpR op_eq (pv 0) pe_int (nomark _)) (pss_cons (ps_set (i := 2) nd rfl (Or.inl rfl) (pe_mkx D_TooMany (hr.mono (by decide)) hq (pa_cons (pv 1) pa_nil)))
        (pss_one (ps_ret (pe_lst (pa_cons (pv 2) (pa_cons (pe_lst (pa_cons (pe_xf (pv 2)) pa_nil)) pa_nil)))))) pss_nil)
      (pss_one (ps_ret (pe_lst (pa_cons (pe_ix (ixLK K) (pe_lst (pa_cons (pe_mk0 D_InvalidText) (pa_cons (pe_mk0 D_InvalidCommand) (pa_cons (pe_mk0 D_NothingDone) pa_nil)))) (pe_op op_sub (pv 0) pe_int) (fun _ _ => rfl)) (pa_cons (pe_lst pa_nil) pa_nil))))))))))))))), ?_⟩
    simp (maxSteps := 10000000) only [tSeq, tAsg, gName, tVar, tC, tOp, tUn, tNil, tCons, tCall, tCB, tBM, tBM0, tSl, tNoPart, tPart, tRet, tRetN, tIf, tIfS, tB, tTest, tDrop, tNext, tTup, tLst, tAnd, tOr, tNot, tNotV, tYes, tIsN, tNotN, rI, rI0, rU, rEq, rNe, rPop, rAppend, rCat, rSetL, rIxL, rIxS, rSlL, tRevL, tFor_eq, tWhile_eq, tLc_eq, iList, iTup, iRng1, iRng2, iStr, iZip, gTup, gCons, gNil, gSub, L2.start, Lay.cx_K, CDiv, CDivN, CPow, List.map_cons, List.map_nil, List.length_cons, List.length_nil, List.replicate_succ, List.replicate_zero, List.cons_append, List.nil_append, List.append_nil, List.set_cons_zero, List.set_cons_succ, List.getElem?_cons_zero, List.getElem?_cons_succ, Option.some.injEq, exists_eq_left', V.int.injEq, V.str.injEq, V.ref.injEq, V.bl.injEq, List.cons.injEq, and_true, true_and, exists_and_left, exists_eq_left, exists_eq, and_assoc, Nat.reduceAdd, Nat.reduceSub, Nat.zero_add, exists_and_right, exists_const, L2.wipe, if_true, if_false, tBits, rLenK, rCopyK, rTupleK, tXst, tXf, tMkX, tMk0, N_law_made]
    refine ⟨rfl, ite2 (fun c => ?_) (fun c0 => ?_)⟩
    · have hi0 := of_decide_eq_true c
      obtain rfl : i = 0 := by omega
      refine ⟨by decide, fun a ha => mk_ini ha ?_⟩
      intro G dx hdx ne e1 e2 s1 s2
      refine ⟨Cs 0, D_NoStore.ex, ER.nof 0 (by decide) _ (by decide +kernel), dx, e1, _, e2, _, rfl, line _, fun r hr' => ⟨line _, fun q hq' => ?_⟩⟩
      have s4 := (same_upd (o := .lst [v]) hr').trans (same_upd (o := .lst [V.ref a, V.ref r]) hq')
      have s3 := s1.trans s4
      exact k _ q r a (some dx) s3 upd_same (same_upd hq' _ _ upd_same) (s4 _ _ e1) (dictAt (s4 _ _ e2))
    refine ⟨rfl, ite2 (fun c => ?_) (fun c1 => ?_)⟩
    · have hi0 := of_decide_eq_true c
      obtain rfl : i = 1 := by omega
      refine ⟨by decide, fun a ha => mk_ini ha ?_⟩
      intro G dx hdx ne e1 e2 s1 s2
      refine ⟨Cs 1, D_Ring.ex, ER.nof 1 (by decide) _ (by decide +kernel), dx, e1, _, e2, _, rfl, ⟨Cs 1, D_Ring.ex, ER.nof 1 (by decide) _ (by decide +kernel), dx, e1, _, e2, _, rfl, line _, fun r hr' => ⟨line _, fun q hq' => ?_⟩⟩⟩
      have s4 := (same_upd (o := .lst [v, .str "ring"]) hr').trans (same_upd (o := .lst [V.ref a, V.ref r]) hq')
      have s3 := s1.trans s4
      exact k _ q r a (some dx) s3 upd_same (same_upd hq' _ _ upd_same) (s4 _ _ e1) (dictAt (s4 _ _ e2))
    refine ⟨rfl, ite2 (fun c => ?_) (fun c2 => ?_)⟩
    · have hi0 := of_decide_eq_true c
      obtain rfl : i = 2 := by omega
      refine ⟨by decide, fun a ha => mk_ini ha ?_⟩
      intro G dx hdx ne e1 e2 s1 s2
      refine ⟨Cs 2, D_NoLot.ex, ER.nof 2 (by decide) _ (by decide +kernel), dx, e1, _, e2, _, rfl, line _, fun r hr' => ⟨line _, fun q hq' => ?_⟩⟩
      have s4 := (same_upd (o := .lst [v]) hr').trans (same_upd (o := .lst [V.ref a, V.ref r]) hq')
      have s3 := s1.trans s4
      exact k _ q r a (some dx) s3 upd_same (same_upd hq' _ _ upd_same) (s4 _ _ e1) (dictAt (s4 _ _ e2))
    refine ⟨rfl, ite2 (fun c => ?_) (fun c3 => ?_)⟩
    · have hi0 := of_decide_eq_true c
      obtain rfl : i = 3 := by omega
      refine ⟨by decide, fun a ha => mk_ini ha ?_⟩
      intro G dx hdx ne e1 e2 s1 s2
      refine ⟨Cs 3, D_NoEdit.ex, ER.nof 3 (by decide) _ (by decide +kernel), dx, e1, _, e2, _, rfl, line _, fun r hr' => ⟨line _, fun q hq' => ?_⟩⟩
      have s4 := (same_upd (o := .lst [v]) hr').trans (same_upd (o := .lst [V.ref a, V.ref r]) hq')
      have s3 := s1.trans s4
      exact k _ q r a (some dx) s3 upd_same (same_upd hq' _ _ upd_same) (s4 _ _ e1) (dictAt (s4 _ _ e2))
    refine ⟨rfl, ite2 (fun c => ?_) (fun c4 => ?_)⟩
    · have hi0 := of_decide_eq_true c
      obtain rfl : i = 4 := by omega
      refine ⟨by decide, fun a ha => mk_ini ha ?_⟩
      intro G dx hdx ne e1 e2 s1 s2
      refine ⟨Cs 4, D_Noticed.ex, ER.nof 4 (by decide) _ (by decide +kernel), dx, e1, _, e2, _, rfl, ⟨Cs 4, D_Noticed.ex, ER.nof 4 (by decide) _ (by decide +kernel), dx, e1, _, e2, _, rfl, line _, fun r hr' => ⟨line _, fun q hq' => ?_⟩⟩⟩
      have s4 := (same_upd (o := .lst [v, .str "noticed"]) hr').trans (same_upd (o := .lst [V.ref a, V.ref r]) hq')
      have s3 := s1.trans s4
      exact k _ q r a (some dx) s3 upd_same (same_upd hq' _ _ upd_same) (s4 _ _ e1) (dictAt (s4 _ _ e2))
    refine ⟨rfl, ite2 (fun c => ?_) (fun c5 => ?_)⟩
    · have hi0 := of_decide_eq_true c
      obtain rfl : i = 5 := by omega
      refine ⟨by decide, fun a ha => mk_ini ha ?_⟩
      intro G dx hdx ne e1 e2 s1 s2
      refine ⟨Cs 5, D_NoContext.ex, ER.nof 5 (by decide) _ (by decide +kernel), dx, e1, _, e2, _, rfl, line _, fun r hr' => ⟨line _, fun q hq' => ?_⟩⟩
      have s4 := (same_upd (o := .lst [v]) hr').trans (same_upd (o := .lst [V.ref a, V.ref r]) hq')
      have s3 := s1.trans s4
      exact k _ q r a (some dx) s3 upd_same (same_upd hq' _ _ upd_same) (s4 _ _ e1) (dictAt (s4 _ _ e2))
    refine ⟨rfl, ite2 (fun c => ?_) (fun c6 => ?_)⟩
    · have hi0 := of_decide_eq_true c
      obtain rfl : i = 6 := by omega
      refine ⟨by decide, fun a ha => mk_ini ha ?_⟩
      intro G dx hdx ne e1 e2 s1 s2
      refine ⟨Cs 6, D_NoModule.ex, ER.nof 6 (by decide) _ (by decide +kernel), dx, e1, _, e2, _, rfl, line _, fun r hr' => ⟨line _, fun q hq' => ?_⟩⟩
      have s4 := (same_upd (o := .lst [v]) hr').trans (same_upd (o := .lst [V.ref a, V.ref r]) hq')
      have s3 := s1.trans s4
      exact k _ q r a (some dx) s3 upd_same (same_upd hq' _ _ upd_same) (s4 _ _ e1) (dictAt (s4 _ _ e2))
    refine ⟨rfl, ite2 (fun c => ?_) (fun c7 => ?_)⟩
    · have hi0 := of_decide_eq_true c
      obtain rfl : i = 7 := by omega
      refine ⟨by decide, fun a ha => mk_ini ha ?_⟩
      intro G dx hdx ne e1 e2 s1 s2
      refine ⟨Cs 7, D_NoWrite.ex, ER.nof 7 (by decide) _ (by decide +kernel), dx, e1, _, e2, _, rfl, line _, fun r hr' => ⟨line _, fun q hq' => ?_⟩⟩
      have s4 := (same_upd (o := .lst [v]) hr').trans (same_upd (o := .lst [V.ref a, V.ref r]) hq')
      have s3 := s1.trans s4
      exact k _ q r a (some dx) s3 upd_same (same_upd hq' _ _ upd_same) (s4 _ _ e1) (dictAt (s4 _ _ e2))
    refine ⟨rfl, ite2 (fun c => ?_) (fun c8 => ?_)⟩
    · have hi0 := of_decide_eq_true c
      obtain rfl : i = 8 := by omega
      refine ⟨by decide, fun a ha => mk_ini ha ?_⟩
      intro G dx hdx ne e1 e2 s1 s2
      refine ⟨Cs 8, D_NotHeld.ex, ER.nof 8 (by decide) _ (by decide +kernel), dx, e1, _, e2, _, rfl, line _, fun r hr' => ⟨line _, fun q hq' => ?_⟩⟩
      have s4 := (same_upd (o := .lst [v]) hr').trans (same_upd (o := .lst [V.ref a, V.ref r]) hq')
      have s3 := s1.trans s4
      exact k _ q r a (some dx) s3 upd_same (same_upd hq' _ _ upd_same) (s4 _ _ e1) (dictAt (s4 _ _ e2))
    refine ⟨rfl, ite2 (fun c => ?_) (fun c9 => ?_)⟩
    · have hi0 := of_decide_eq_true c
      obtain rfl : i = 9 := by omega
      refine ⟨by decide, fun a ha => mk_ini ha ?_⟩
      intro G dx hdx ne e1 e2 s1 s2
      refine ⟨Cs 9, D_TooMany.ex, ER.nof 9 (by decide) _ (by decide +kernel), dx, e1, _, e2, _, rfl, line _, fun r hr' => ⟨line _, fun q hq' => ?_⟩⟩
      have s4 := (same_upd (o := .lst [v]) hr').trans (same_upd (o := .lst [V.ref a, V.ref r]) hq')
      have s3 := s1.trans s4
      exact k _ q r a (some dx) s3 upd_same (same_upd hq' _ _ upd_same) (s4 _ _ e1) (dictAt (s4 _ _ e2))
    intro a ha a2 ha2 a4 ha4
    refine ⟨line _, fun p hp => ⟨_, .inl (.inl upd_same), ?_⟩⟩
    simp only [decide_eq_true_eq] at c0 c1 c2 c3 c4 c5 c6 c7 c8 c9
    have this : i = 10 ∨ i = 11 ∨ i = 12 := by omega
    have e : (i : Int) - 10 = ((i - 10 : Nat) : Int) := by omega
    rw [e]
    have t1 : upd H a (exo a (Cs 10) none) a = some (exo a (Cs 10) none) := upd_same
    have t2 : upd (upd H a (exo a (Cs 10) none)) a2 (exo a2 (Cs 11) none) a2 = some (exo a2 (Cs 11) none) := upd_same
    have t4 : upd (upd (upd H a (exo a (Cs 10) none)) a2 (exo a2 (Cs 11) none)) a4 (exo a4 (Cs 12) none) a4 = some (exo a4 (Cs 12) none) := upd_same
    have u1 := same_upd (o := .lst [V.ref a, V.ref a2, V.ref a4]) hp _ _ (same_upd (o := exo a4 (Cs 12) none) ha4 _ _ (same_upd (o := exo a2 (Cs 11) none) ha2 _ _ t1))
    have u2 := same_upd (o := .lst [V.ref a, V.ref a2, V.ref a4]) hp _ _ (same_upd (o := exo a4 (Cs 12) none) ha4 _ _ t2)
    have u4 := same_upd (o := .lst [V.ref a, V.ref a2, V.ref a4]) hp _ _ t4
    have sH := sameU (o := .lst [V.ref a, V.ref a2, V.ref a4]) (sameU (o := exo a4 (Cs 12) none) (sameU (o := exo a2 (Cs 11) none) (same_upd (o := exo a (Cs 10) none) ha) ha2) ha4) hp
    generalize upd (upd (upd (upd H a (exo a (Cs 10) none)) a2 (exo a2 (Cs 11) none)) a4 (exo a4 (Cs 12) none)) p (.lst [V.ref a, V.ref a2, V.ref a4]) = G at u1 u2 u4 sH
    have no : ∀ {h : Hp}, DictAt h none := fun {h} dx z => nomatch z
    rcases this with z | z | z <;> subst z
    · refine ⟨_, atI_nat rfl, line _, fun r hr' => ⟨line _, fun q hq' => ?_⟩⟩
      exact k _ q r a none (sameU (sameU sH hr') hq') upd_same (same_upd hq' _ _ upd_same) (same_upd hq' _ _ (same_upd hr' _ _ u1)) no
    · refine ⟨_, atI_nat rfl, line _, fun r hr' => ⟨line _, fun q hq' => ?_⟩⟩
      exact k _ q r a2 none (sameU (sameU sH hr') hq') upd_same (same_upd hq' _ _ upd_same) (same_upd hq' _ _ (same_upd hr' _ _ u2)) no
    · refine ⟨_, atI_nat rfl, line _, fun r hr' => ⟨line _, fun q hq' => ?_⟩⟩
      exact k _ q r a4 none (sameU (sameU sH hr') hq') upd_same (same_upd hq' _ _ upd_same) (same_upd hq' _ _ (same_upd hr' _ _ u4)) no
end
end C01
namespace C01
open PySem PySem.Spec PyProof.Rows L2 Lay
section
variable {P : Program} {w : World} {K : PySem.W.Frag} {mg : Str → Option Value} {base : Heap} {Cs : Nat → Addr}
def byL (v : V) : List V := [v, v, .str "ring", v, v, v, .str "noticed", v, v, v, v, v]
def sp_by : Sp := fun vs H Q _ => ∃ (v : V), vs = [v] ∧ ∀ H' q, Same H H' → H' q = some (.lst (byL v)) → Q (.ref q) H'
theorem ok_law_by_name {f : Addr} {fd : FuncData} (F : Fun K "_law_by_name" "_law_by_name" s_law_by_name f fd) (ER : Errs P w K mg base Cs) :
    FnG P w K mg base CX0 3 f fd ["_law_thing_here"] sp_by := by
  refine okG F sc_law_by_name (fun vs H Q E h => ?_) (fun cdv A outer s H vs Q E hr hq h => ?_)
  · obtain ⟨v, rfl, _⟩ := h
    rfl
  · obtain ⟨v, rfl, k⟩ := h
    have nd := sc_law_by_name.nd
    have D_NoStore := ER.D_NoStore
    have D_Ring := ER.D_Ring
    have D_NoLot := ER.D_NoLot
    have D_NoEdit := ER.D_NoEdit
    have D_Noticed := ER.D_Noticed
    have D_NoContext := ER.D_NoContext
    have D_NoModule := ER.D_NoModule
    have D_NoWrite := ER.D_NoWrite
    have D_NotHeld := ER.D_NotHeld
    have D_TooMany := ER.D_TooMany
    have D_InvalidText := ER.D_InvalidText
    have D_InvalidCommand := ER.D_InvalidCommand
    have D_NothingDone := ER.D_NothingDone
    have D_HeldError := ER.D_HeldError
    refine ⟨_, (pss_cons (ps_set (i := 1) nd rfl (Or.inl rfl) (pe_lst (pa_cons (pe_xf (pe_mkxk D_NoStore (hr.mono (by decide)) hq (pk_cons (pv 0) pk_nil))) (pa_cons (pe_xf (pe_mkxk D_Ring (hr.mono (by decide)) hq (pk_cons (pv 0) pk_nil))) (pa_cons (pe_xf (pe_mkxk D_Ring (hr.mono (by decide)) hq (pk_cons (pv 0) pk_nil))) (pa_cons (pe_xf (pe_mkxk D_NoLot (hr.mono (by decide)) hq (pk_cons (pv 0) pk_nil))) pa_nil))))))
      (pss_cons (ps_set (i := 1) nd rfl (Or.inl rfl) (pe_op op_cat (pv 1) (pe_lst (pa_cons (pe_xf (pe_mkxk D_NoEdit (hr.mono (by decide)) hq (pk_cons (pv 0) pk_nil))) (pa_cons (pe_xf (pe_mkxk D_Noticed (hr.mono (by decide)) hq (pk_cons (pv 0) pk_nil))) (pa_cons (pe_xf (pe_mkxk D_Noticed (hr.mono (by decide)) hq (pk_cons (pv 0) pk_nil))) pa_nil))))))
      (pss_cons (ps_set (i := 1) nd rfl (Or.inl rfl) (pe_op op_cat (pv 1) (pe_lst (pa_cons (pe_xf (pe_mkxk D_NoContext (hr.mono (by decide)) hq (pk_cons (pv 0) pk_nil))) (pa_cons (pe_xf (pe_mkxk D_NoModule (hr.mono (by decide)) hq (pk_cons (pv 0) pk_nil))) (pa_cons (pe_xf (pe_mkxk D_NoWrite (hr.mono (by decide)) hq (pk_cons (pv 0) pk_nil))) pa_nil))))))
      (pss_one (ps_ret (pe_op op_cat (pv 1) (pe_lst (pa_cons (pe_xf (pe_mkxk D_NotHeld (hr.mono (by decide)) hq (pk_cons (pv 0) pk_nil))) (pa_cons (pe_xf (pe_mkxk D_TooMany (hr.mono (by decide)) hq (pk_cons (pv 0) pk_nil))) pa_nil))))))))), ?_⟩
    simp (maxSteps := 10000000) only [tSeq, tAsg, gName, tVar, tC, tOp, tUn, tNil, tCons, tCall, tCB, tBM, tBM0, tSl, tNoPart, tPart, tRet, tRetN, tIf, tIfS, tB, tTest, tDrop, tNext, tTup, tLst, tAnd, tOr, tNot, tNotV, tYes, tIsN, tNotN, rI, rI0, rU, rEq, rNe, rPop, rAppend, rCat, rSetL, rIxL, rIxS, rSlL, tRevL, tFor_eq, tWhile_eq, tLc_eq, iList, iTup, iRng1, iRng2, iStr, iZip, gTup, gCons, gNil, gSub, L2.start, Lay.cx_K, CDiv, CDivN, CPow, List.map_cons, List.map_nil, List.length_cons, List.length_nil, List.replicate_succ, List.replicate_zero, List.cons_append, List.nil_append, List.append_nil, List.set_cons_zero, List.set_cons_succ, List.getElem?_cons_zero, List.getElem?_cons_succ, Option.some.injEq, exists_eq_left', V.int.injEq, V.str.injEq, V.ref.injEq, V.bl.injEq, List.cons.injEq, and_true, true_and, exists_and_left, exists_eq_left, exists_eq, and_assoc, Nat.reduceAdd, Nat.reduceSub, Nat.zero_add, exists_and_right, exists_const, L2.wipe, if_true, if_false, tBits, rLenK, rCopyK, rTupleK, tXst, tXf, tMkX, tMk0, N_law_by_name]
    have z0 : Same H H := Same.refl H
    refine ⟨by decide, fun a1 ha1 => mk_ini ha1 ?_⟩
    intro G1 dx1 hdx1 ne1 e1 f1 s1 r1
    refine ⟨Cs 0, D_NoStore.ex, ER.nof 0 (by decide) _ (by decide +kernel), dx1, e1, _, f1, _, rfl, ?_⟩
    have z1 := z0.trans s1
    refine ⟨by decide, fun a2 ha2 => mk_ini ha2 ?_⟩
    intro G2 dx2 hdx2 ne2 e2 f2 s2 r2
    refine ⟨Cs 1, D_Ring.ex, ER.nof 1 (by decide) _ (by decide +kernel), dx2, e2, _, f2, _, rfl, ?_⟩
    have z2 := z1.trans s2
    refine ⟨by decide, fun a3 ha3 => mk_ini ha3 ?_⟩
    intro G3 dx3 hdx3 ne3 e3 f3 s3 r3
    refine ⟨Cs 1, D_Ring.ex, ER.nof 1 (by decide) _ (by decide +kernel), dx3, e3, _, f3, _, rfl, ?_⟩
    have z3 := z2.trans s3
    refine ⟨by decide, fun a4 ha4 => mk_ini ha4 ?_⟩
    intro G4 dx4 hdx4 ne4 e4 f4 s4 r4
    refine ⟨Cs 2, D_NoLot.ex, ER.nof 2 (by decide) _ (by decide +kernel), dx4, e4, _, f4, _, rfl, ?_⟩
    have z4 := z3.trans s4
    refine ⟨line _, fun q0 h0 => ?_⟩
    have y0 := sameU (o := .lst ([v, v, V.str "ring", v] : List V)) z4 h0
    refine ⟨by decide, fun a5 ha5 => mk_ini ha5 ?_⟩
    intro G5 dx5 hdx5 ne5 e5 f5 s5 r5
    refine ⟨Cs 3, D_NoEdit.ex, ER.nof 3 (by decide) _ (by decide +kernel), dx5, e5, _, f5, _, rfl, ?_⟩
    have z5 := y0.trans s5
    refine ⟨by decide, fun a6 ha6 => mk_ini ha6 ?_⟩
    intro G6 dx6 hdx6 ne6 e6 f6 s6 r6
    refine ⟨Cs 4, D_Noticed.ex, ER.nof 4 (by decide) _ (by decide +kernel), dx6, e6, _, f6, _, rfl, ?_⟩
    have z6 := z5.trans s6
    refine ⟨by decide, fun a7 ha7 => mk_ini ha7 ?_⟩
    intro G7 dx7 hdx7 ne7 e7 f7 s7 r7
    refine ⟨Cs 4, D_Noticed.ex, ER.nof 4 (by decide) _ (by decide +kernel), dx7, e7, _, f7, _, rfl, ?_⟩
    have z7 := z6.trans s7
    refine ⟨line _, fun p0 g0 => ⟨_, same_upd g0 _ _ (((s5.trans s6).trans s7) _ _ upd_same), _, upd_same, line _ (by simp only [List.length_append, List.length_cons, List.length_nil]; omega), fun q1 h1 => ?_⟩⟩
    have y1 := sameU (o := .lst (([v, v, V.str "ring", v] : List V) ++ ([v, v, V.str "noticed"] : List V))) (sameU (o := .lst ([v, v, V.str "noticed"] : List V)) z7 g0) h1
    refine ⟨by decide, fun a8 ha8 => mk_ini ha8 ?_⟩
    intro G8 dx8 hdx8 ne8 e8 f8 s8 r8
    refine ⟨Cs 5, D_NoContext.ex, ER.nof 5 (by decide) _ (by decide +kernel), dx8, e8, _, f8, _, rfl, ?_⟩
    have z8 := y1.trans s8
    refine ⟨by decide, fun a9 ha9 => mk_ini ha9 ?_⟩
    intro G9 dx9 hdx9 ne9 e9 f9 s9 r9
    refine ⟨Cs 6, D_NoModule.ex, ER.nof 6 (by decide) _ (by decide +kernel), dx9, e9, _, f9, _, rfl, ?_⟩
    have z9 := z8.trans s9
    refine ⟨by decide, fun a10 ha10 => mk_ini ha10 ?_⟩
    intro G10 dx10 hdx10 ne10 e10 f10 s10 r10
    refine ⟨Cs 7, D_NoWrite.ex, ER.nof 7 (by decide) _ (by decide +kernel), dx10, e10, _, f10, _, rfl, ?_⟩
    have z10 := z9.trans s10
    refine ⟨line _, fun p1 g1 => ⟨_, same_upd g1 _ _ (((s8.trans s9).trans s10) _ _ upd_same), _, upd_same, line _ (by simp only [List.length_append, List.length_cons, List.length_nil]; omega), fun q2 h2 => ?_⟩⟩
    have y2 := sameU (o := .lst ((([v, v, V.str "ring", v] : List V) ++ ([v, v, V.str "noticed"] : List V)) ++ ([v, v, v] : List V))) (sameU (o := .lst ([v, v, v] : List V)) z10 g1) h2
    refine ⟨by decide, fun a11 ha11 => mk_ini ha11 ?_⟩
    intro G11 dx11 hdx11 ne11 e11 f11 s11 r11
    refine ⟨Cs 8, D_NotHeld.ex, ER.nof 8 (by decide) _ (by decide +kernel), dx11, e11, _, f11, _, rfl, ?_⟩
    have z11 := y2.trans s11
    refine ⟨by decide, fun a12 ha12 => mk_ini ha12 ?_⟩
    intro G12 dx12 hdx12 ne12 e12 f12 s12 r12
    refine ⟨Cs 9, D_TooMany.ex, ER.nof 9 (by decide) _ (by decide +kernel), dx12, e12, _, f12, _, rfl, ?_⟩
    have z12 := z11.trans s12
    refine ⟨line _, fun p2 g2 => ⟨_, same_upd g2 _ _ ((s11.trans s12) _ _ upd_same), _, upd_same, line _ (by simp only [List.length_append, List.length_cons, List.length_nil]; omega), fun q3 h3 => ?_⟩⟩
    have y3 := sameU (o := .lst (((([v, v, V.str "ring", v] : List V) ++ ([v, v, V.str "noticed"] : List V)) ++ ([v, v, v] : List V)) ++ ([v, v] : List V))) (sameU (o := .lst ([v, v] : List V)) z12 g2) h3
    exact k _ q3 y3 upd_same
end
end C01
namespace C01
open PySem PySem.Spec PyProof.Rows L2 Lay
section
variable {P : Program} {w : World} {K : PySem.W.Frag} {mg : Str → Option Value} {base : Heap} {Cs : Nat → Addr}
theorem room_mark {k : Nat} {A : Around} (r : Room k A) (h : Option Value) : L2H.RoomH k (A.mark h) := ⟨r.dp, r.un⟩
def tR (C : Addr) (fs : V → List (Str × V)) (W : WX) : TS := fun _ σ H => tMkR C (spIni C fs) (tCons (tVar 1) tNil) σ H fun cls d H' => W cls d σ H'
def tR0 (C : Addr) (W : WX) : TS := fun _ σ H => W (.ref C) none σ H
def tI (c : Int) (a : TS) : TS := tIfS (tTest (tOp rEq (tVar 0) (tC (.int c)))) a tNext
def tBody (Cs : Nat → Addr) (W : WX) : TS :=
  tSeq (tI 0 (tR (Cs 0) (fun v => [("word", v)]) W)) (tSeq (tI 1 (tR (Cs 1) (fun v => [("names", v), ("word", .str "ring")]) W)) (tSeq (tI 2 (tR (Cs 2) (fun v => [("names", v)]) W)) (tSeq (tI 3 (tR (Cs 3) (fun v => [("word", v)]) W)) (tSeq (tI 4 (tR (Cs 4) (fun v => [("stranger", v), ("word", .str "noticed")]) W)) (tSeq (tI 5 (tR (Cs 5) (fun v => [("word", v)]) W)) (tSeq (tI 6 (tR (Cs 6) (fun v => [("part", v)]) W)) (tSeq (tI 7 (tR (Cs 7) (fun v => [("names", v)]) W)) (tSeq (tI 8 (tR (Cs 8) (fun v => [("handle", v)]) W)) (tSeq (tI 9 (tR (Cs 9) (fun v => [("limit", v)]) W)) (tSeq (tI 10 (tR0 (Cs 10) W)) (tSeq (tI 11 (tR0 (Cs 11) W)) (tR0 (Cs 12) W))))))))))))
def tSuite (Cs : Nat → Addr) : Addr → Value → Option Addr → TS := fun a cls d => tAsg (tCall (sp_kindsP Cs a cls d) [] E0 (tCons (tVar 3) tNil)) (gName 2)
def sp_raised (Cs : Nat → Addr) : Sp := fun vs H Q _ => ∃ (i : Nat) (v : V), vs = [.int i, v] ∧ i < 13 ∧ ∀ H' l, Same H H' → H' l = some (.lst (kindsL i)) → Q (.ref l) H'
theorem ok_law_raised {f fk : Addr} {fd fdk : FuncData} (F : Fun K "_law_raised" "_law_raised" s_law_raised f fd) (ER : Errs P w K mg base Cs)
    (FK : FnP P w K mg base 1 fk fdk ["_law_e"] (fun p => sp_kindsP Cs p.1 p.2.cls p.2.dict)) (gk : mg "_law_kinds" = some (.ref fk))
    (kk : PySem.W.keepIn K (.ref fk) = true) (bk : L2.Binds K fdk ["_law_e"] []) :
    FnG P w K mg base CX0 3 f fd ["_law_which", "_law_thing_here"] (sp_raised Cs) := by
  refine okG F sc_law_raised (fun vs H Q E h => ?_) (fun cdv A outer s H vs Q E hr hq h => ?_)
  · obtain ⟨i, v, rfl, _⟩ := h
    rfl
  · obtain ⟨i, v, rfl, hi, k⟩ := h
    have nd := sc_law_raised.nd
    have D_NoStore := ER.D_NoStore
    have D_Ring := ER.D_Ring
    have D_NoLot := ER.D_NoLot
    have D_NoEdit := ER.D_NoEdit
    have D_Noticed := ER.D_Noticed
    have D_NoContext := ER.D_NoContext
    have D_NoModule := ER.D_NoModule
    have D_NoWrite := ER.D_NoWrite
    have D_NotHeld := ER.D_NotHeld
    have D_TooMany := ER.D_TooMany
    have D_InvalidText := ER.D_InvalidText
    have D_InvalidCommand := ER.D_InvalidCommand
    have D_NothingDone := ER.D_NothingDone
    have D_HeldError := ER.D_HeldError
    refine ⟨_, (pss_cons (ps_set (i := 2) nd rfl (Or.inl rfl) (pe_lst pa_nil))
      (pss_cons (ps_try_as (i := 3) (tb := (tBody Cs)) (ts := (tSuite Cs)) (Wout := fun _ _ _ _ => False) rfl rfl nd rfl rfl ⟨rfl, by decide, Or.inl D_HeldError.gm⟩ takes0
        (fun W pn xe tk _ => (pss_cons (ps_if (pt_cmpR op_eq (pv 0) pe_int (nomark _)) (pss_one (ps_raise rfl tk (pmk_x D_NoStore (hr.mono (by decide)) hq (pa_cons (pv 1) pa_nil)))) pss_nil)
        (pss_cons (ps_if (pt_cmpR op_eq (pv 0) pe_int (nomark _)) (pss_one (ps_raise rfl tk (pmk_x D_Ring (hr.mono (by decide)) hq (pa_cons (pv 1) pa_nil)))) pss_nil)
        (pss_cons (ps_if (pt_cmpR op_eq (pv 0) pe_int (nomark _)) (pss_one (ps_raise rfl tk (pmk_x D_NoLot (hr.mono (by decide)) hq (pa_cons (pv 1) pa_nil)))) pss_nil)
        (pss_cons (ps_if (pt_cmpR op_eq (pv 0) pe_int (nomark _)) (pss_one (ps_raise rfl tk (pmk_x D_NoEdit (hr.mono (by decide)) hq (pa_cons (pv 1) pa_nil)))) pss_nil)
        (pss_cons (ps_if (pt_cmpR op_eq (pv 0) pe_int (nomark _)) (pss_one (ps_raise rfl tk (pmk_x D_Noticed (hr.mono (by decide)) hq (pa_cons (pv 1) pa_nil)))) pss_nil)
        (pss_cons (ps_if (pt_cmpR op_eq (pv 0) pe_int (nomark _)) (pss_one (ps_raise rfl tk (pmk_x D_NoContext (hr.mono (by decide)) hq (pa_cons (pv 1) pa_nil)))) pss_nil)
        (pss_cons (ps_if (pt_cmpR op_eq (pv 0) pe_int (nomark _)) (pss_one (ps_raise rfl tk (pmk_x D_NoModule (hr.mono (by decide)) hq (pa_cons (pv 1) pa_nil)))) pss_nil)
        (pss_cons (ps_if (pt_cmpR op_eq (pv 0) pe_int (nomark _)) (pss_one (ps_raise rfl tk (pmk_x D_NoWrite (hr.mono (by decide)) hq (pa_cons (pv 1) pa_nil)))) pss_nil)
        (pss_cons (ps_if (pt_cmpR op_eq (pv 0) pe_int (nomark _)) (pss_one (ps_raise rfl tk (pmk_x D_NotHeld (hr.mono (by decide)) hq (pa_cons (pv 1) pa_nil)))) pss_nil)
        (pss_cons (ps_if (pt_cmpR op_eq (pv 0) pe_int (nomark _)) (pss_one (ps_raise rfl tk (pmk_x D_TooMany (hr.mono (by decide)) hq (pa_cons (pv 1) pa_nil)))) pss_nil)
        (pss_cons (ps_if (pt_cmpR op_eq (pv 0) pe_int (nomark _)) (pss_one (ps_raise rfl tk (pmk_x0 D_InvalidText))) pss_nil)
        (pss_cons (ps_if (pt_cmpR op_eq (pv 0) pe_int (nomark _)) (pss_one (ps_raise rfl tk (pmk_x0 D_InvalidCommand))) pss_nil)
        (pss_one (ps_raise rfl tk (pmk_x0 D_NothingDone))))))))))))))))
        (fun a oe cls d pn hz hf => (by obtain ⟨rfl, rfl⟩ := hz; refine pss_one (ps_set (i := 2) nd rfl (Or.inl rfl) ?_); exact pe_callP (sp := fun p => sp_kindsP Cs p.1 p.2.cls p.2.dict) (pe := (a, oe)) FK (room_mark (hr.mono (by decide)) _) (List.mem_cons_self ..) hf rfl gk kk bk (pa_cons (pv 3) pa_nil))))
      (pss_one (ps_ret (pv 2))))), ?_⟩
    simp only [tSeq, tAsg, gName, tVar, tC, tOp, tUn, tNil, tCons, tCall, tCB, tBM, tBM0, tSl, tNoPart, tPart, tRet, tRetN, tIf, tIfS, tB, tTest, tDrop, tNext, tTup, tLst, tAnd, tOr, tNot, tNotV, tYes, tIsN, tNotN, rI, rI0, rU, rEq, rNe, rPop, rAppend, rCat, rSetL, rIxL, rIxS, rSlL, tRevL, tFor_eq, tWhile_eq, tLc_eq, iList, iTup, iRng1, iRng2, iStr, iZip, gTup, gCons, gNil, gSub, L2.start, Lay.cx_K, CDiv, CDivN, CPow, List.map_cons, List.map_nil, List.length_cons, List.length_nil, List.replicate_succ, List.replicate_zero, List.cons_append, List.nil_append, List.append_nil, List.set_cons_zero, List.set_cons_succ, List.getElem?_cons_zero, List.getElem?_cons_succ, Option.some.injEq, exists_eq_left', V.int.injEq, V.str.injEq, V.ref.injEq, V.bl.injEq, List.cons.injEq, and_true, true_and, exists_and_left, exists_eq_left, exists_eq, and_assoc, Nat.reduceAdd, Nat.reduceSub, Nat.zero_add, exists_and_right, exists_const, L2.wipe, if_true, if_false, tBits, rLenK, rCopyK, rTupleK, N_law_raised]
    refine ⟨line _, fun p hp => ?_⟩
    have s0 : Same H (upd H p (.lst [])) := same_upd hp
    generalize upd H p (.lst []) = H0 at s0
    have fin : ∀ (c : Nat) (d : Option Addr) (G : Hp), i = c → Same H0 G → DictAt G d →
        wAs K (.ref (Cs 13)) 3 (tSuite Cs) (fun _ _ _ _ => False) { nx := tRet (tVar 2) { nx := fun x G' => Q V.non G', rt := Q }, rt := Q } (.ref (Cs c)) d
          [some (V.int i), some v, some (V.ref p), none] G := by
      intro c d G ec s1 hd
      subst ec
      refine ⟨true, ER.exm i hi, fun _ a _ => ?_, fun z => nomatch z⟩
      simp only [tSuite]
      simp only [tSeq, tAsg, gName, tVar, tC, tOp, tUn, tNil, tCons, tCall, tCB, tBM, tBM0, tSl, tNoPart, tPart, tRet, tRetN, tIf, tIfS, tB, tTest, tDrop, tNext, tTup, tLst, tAnd, tOr, tNot, tNotV, tYes, tIsN, tNotN, rI, rI0, rU, rEq, rNe, rPop, rAppend, rCat, rSetL, rIxL, rIxS, rSlL, tRevL, tFor_eq, tWhile_eq, tLc_eq, iList, iTup, iRng1, iRng2, iStr, iZip, gTup, gCons, gNil, gSub, L2.start, Lay.cx_K, CDiv, CDivN, CPow, List.map_cons, List.map_nil, List.length_cons, List.length_nil, List.replicate_succ, List.replicate_zero, List.cons_append, List.nil_append, List.append_nil, List.set_cons_zero, List.set_cons_succ, List.getElem?_cons_zero, List.getElem?_cons_succ, Option.some.injEq, exists_eq_left', V.int.injEq, V.str.injEq, V.ref.injEq, V.bl.injEq, List.cons.injEq, and_true, true_and, exists_and_left, exists_eq_left, exists_eq, and_assoc, Nat.reduceAdd, Nat.reduceSub, Nat.zero_add, exists_and_right, exists_const, L2.wipe, if_true, if_false, tBits, rLenK, rCopyK, rTupleK]
      exact ⟨i, rfl, hi, rfl, hd, fun F l s e => k F l ((s0.trans s1).trans s) e⟩
    have let_go : ∀ (G : Hp) (a dx : Addr) (fs : List (Str × V)), H0 a = none → H0 dx = none → Same H0 G → Same H0 (upd (del G a) dx (.xd fs)) := by
      intro G a dx fs ha hdx s b o e
      rw [upd_ne (ne_of_none e hdx), del_ne (ne_of_none e ha)]
      exact s b o e
    have dict : ∀ (G : Hp) (dx : Addr) (fs : List (Str × V)), DictAt (upd G dx (.xd fs)) (some dx) := by
      intro G dx fs d e
      cases e
      exact ⟨_, .inr upd_same⟩
    simp only [tBody, tR, tR0, tI, tMkR]
    simp (maxSteps := 10000000) only [tSeq, tAsg, gName, tVar, tC, tOp, tUn, tNil, tCons, tCall, tCB, tBM, tBM0, tSl, tNoPart, tPart, tRet, tRetN, tIf, tIfS, tB, tTest, tDrop, tNext, tTup, tLst, tAnd, tOr, tNot, tNotV, tYes, tIsN, tNotN, rI, rI0, rU, rEq, rNe, rPop, rAppend, rCat, rSetL, rIxL, rIxS, rSlL, tRevL, tFor_eq, tWhile_eq, tLc_eq, iList, iTup, iRng1, iRng2, iStr, iZip, gTup, gCons, gNil, gSub, L2.start, Lay.cx_K, CDiv, CDivN, CPow, List.map_cons, List.map_nil, List.length_cons, List.length_nil, List.replicate_succ, List.replicate_zero, List.cons_append, List.nil_append, List.append_nil, List.set_cons_zero, List.set_cons_succ, List.getElem?_cons_zero, List.getElem?_cons_succ, Option.some.injEq, exists_eq_left', V.int.injEq, V.str.injEq, V.ref.injEq, V.bl.injEq, List.cons.injEq, and_true, true_and, exists_and_left, exists_eq_left, exists_eq, and_assoc, Nat.reduceAdd, Nat.reduceSub, Nat.zero_add, exists_and_right, exists_const, L2.wipe, if_true, if_false, tBits, rLenK, rCopyK, rTupleK, tR, tR0, tI, tMkR, tBody]
    refine ⟨rfl, ite2 (fun c => ?_) (fun c0 => ?_)⟩
    · have hi0 : i = 0 := by have := of_decide_eq_true c; omega
      refine ⟨by decide, fun a ha => mk_ini ha ?_⟩
      intro G dx hdx ne e1 e2 s1 r1
      exact ⟨dx, e1, _, e2, hdx, fin 0 (some dx) _ hi0 (let_go _ _ _ _ ha hdx s1) (dict _ _ _)⟩
    refine ⟨rfl, ite2 (fun c => ?_) (fun c1 => ?_)⟩
    · have hi0 : i = 1 := by have := of_decide_eq_true c; omega
      refine ⟨by decide, fun a ha => mk_ini ha ?_⟩
      intro G dx hdx ne e1 e2 s1 r1
      exact ⟨dx, e1, _, e2, hdx, fin 1 (some dx) _ hi0 (let_go _ _ _ _ ha hdx s1) (dict _ _ _)⟩
    refine ⟨rfl, ite2 (fun c => ?_) (fun c2 => ?_)⟩
    · have hi0 : i = 2 := by have := of_decide_eq_true c; omega
      refine ⟨by decide, fun a ha => mk_ini ha ?_⟩
      intro G dx hdx ne e1 e2 s1 r1
      exact ⟨dx, e1, _, e2, hdx, fin 2 (some dx) _ hi0 (let_go _ _ _ _ ha hdx s1) (dict _ _ _)⟩
    refine ⟨rfl, ite2 (fun c => ?_) (fun c3 => ?_)⟩
    · have hi0 : i = 3 := by have := of_decide_eq_true c; omega
      refine ⟨by decide, fun a ha => mk_ini ha ?_⟩
      intro G dx hdx ne e1 e2 s1 r1
      exact ⟨dx, e1, _, e2, hdx, fin 3 (some dx) _ hi0 (let_go _ _ _ _ ha hdx s1) (dict _ _ _)⟩
    refine ⟨rfl, ite2 (fun c => ?_) (fun c4 => ?_)⟩
    · have hi0 : i = 4 := by have := of_decide_eq_true c; omega
      refine ⟨by decide, fun a ha => mk_ini ha ?_⟩
      intro G dx hdx ne e1 e2 s1 r1
      exact ⟨dx, e1, _, e2, hdx, fin 4 (some dx) _ hi0 (let_go _ _ _ _ ha hdx s1) (dict _ _ _)⟩
    refine ⟨rfl, ite2 (fun c => ?_) (fun c5 => ?_)⟩
    · have hi0 : i = 5 := by have := of_decide_eq_true c; omega
      refine ⟨by decide, fun a ha => mk_ini ha ?_⟩
      intro G dx hdx ne e1 e2 s1 r1
      exact ⟨dx, e1, _, e2, hdx, fin 5 (some dx) _ hi0 (let_go _ _ _ _ ha hdx s1) (dict _ _ _)⟩
    refine ⟨rfl, ite2 (fun c => ?_) (fun c6 => ?_)⟩
    · have hi0 : i = 6 := by have := of_decide_eq_true c; omega
      refine ⟨by decide, fun a ha => mk_ini ha ?_⟩
      intro G dx hdx ne e1 e2 s1 r1
      exact ⟨dx, e1, _, e2, hdx, fin 6 (some dx) _ hi0 (let_go _ _ _ _ ha hdx s1) (dict _ _ _)⟩
    refine ⟨rfl, ite2 (fun c => ?_) (fun c7 => ?_)⟩
    · have hi0 : i = 7 := by have := of_decide_eq_true c; omega
      refine ⟨by decide, fun a ha => mk_ini ha ?_⟩
      intro G dx hdx ne e1 e2 s1 r1
      exact ⟨dx, e1, _, e2, hdx, fin 7 (some dx) _ hi0 (let_go _ _ _ _ ha hdx s1) (dict _ _ _)⟩
    refine ⟨rfl, ite2 (fun c => ?_) (fun c8 => ?_)⟩
    · have hi0 : i = 8 := by have := of_decide_eq_true c; omega
      refine ⟨by decide, fun a ha => mk_ini ha ?_⟩
      intro G dx hdx ne e1 e2 s1 r1
      exact ⟨dx, e1, _, e2, hdx, fin 8 (some dx) _ hi0 (let_go _ _ _ _ ha hdx s1) (dict _ _ _)⟩
    refine ⟨rfl, ite2 (fun c => ?_) (fun c9 => ?_)⟩
    · have hi0 : i = 9 := by have := of_decide_eq_true c; omega
      refine ⟨by decide, fun a ha => mk_ini ha ?_⟩
      intro G dx hdx ne e1 e2 s1 r1
      exact ⟨dx, e1, _, e2, hdx, fin 9 (some dx) _ hi0 (let_go _ _ _ _ ha hdx s1) (dict _ _ _)⟩
    refine ⟨rfl, ite2 (fun c => ?_) (fun c10 => ?_)⟩
    · have hi0 : i = 10 := by have := of_decide_eq_true c; omega
      exact fin 10 none H0 hi0 (Same.refl H0) (fun _ z => nomatch z)
    refine ⟨rfl, ite2 (fun c => ?_) (fun c11 => ?_)⟩
    · have hi0 : i = 11 := by have := of_decide_eq_true c; omega
      exact fin 11 none H0 hi0 (Same.refl H0) (fun _ z => nomatch z)
    simp only [decide_eq_true_eq] at c0 c1 c2 c3 c4 c5 c6 c7 c8 c9 c10 c11
    exact fin 12 none H0 (by omega) (Same.refl H0) (fun _ z => nomatch z)
end
end C01
namespace C01
open PySem PySem.Spec PyProof.Rows L2 Lay
section
variable {P : Program} {w : World} {K : PySem.W.Frag} {mg : Str → Option Value} {base : Heap} {Cs : Nat → Addr}
def sp_right (K : PySem.W.Frag) : Sp := fun vs H Q _ => ∃ (i : Nat) (v : V) (d : PyData), vs = [.int i, v] ∧ i < 13 ∧ Dx K H v d ∧ Sm 4 4000 d ∧
  ∀ H', Same H H' → Q (.bl true) H'
def kindsD (i : Nat) : PyData := .list [.bool (tab i 0), .bool (tab i 1), .bool (tab i 2), .bool (tab i 3), .bool (tab i 4), .bool (tab i 5), .bool (tab i 6),
  .bool (tab i 7), .bool (tab i 8), .bool (tab i 9), .bool (tab i 10), .bool (tab i 11), .bool (tab i 12), .bool (tab i 13), .bool true]
theorem kinds_dp {H : Hp} {l : Addr} {i : Nat} (e : H l = some (.lst (kindsL i))) : Dp K H (.ref l) (kindsD i) :=
  .lst (.inl (.inl e)) (.cons (.bl _) (.cons (.bl _) (.cons (.bl _) (.cons (.bl _) (.cons (.bl _) (.cons (.bl _) (.cons (.bl _) (.cons (.bl _)
    (.cons (.bl _) (.cons (.bl _) (.cons (.bl _) (.cons (.bl _) (.cons (.bl _) (.cons (.bl _) (.cons (.bl _) .nil)))))))))))))))
theorem kinds_good {i : Nat} (h : i < 13) : SeqAt.shaped (kindsD i) = true ∧ PyData.eqv (kindsD i) (kindsD i) = true := by
  have : i = 0 ∨ i = 1 ∨ i = 2 ∨ i = 3 ∨ i = 4 ∨ i = 5 ∨ i = 6 ∨ i = 7 ∨ i = 8 ∨ i = 9 ∨ i = 10 ∨ i = 11 ∨ i = 12 := by omega
  rcases this with e | e | e | e | e | e | e | e | e | e | e | e | e <;> subst e <;> exact ⟨by decide +kernel, by decide +kernel⟩
def heldD (i : Nat) (d : PyData) : List PyData := if i = 1 then [d, .str "ring"] else if i = 4 then [d, .str "noticed"] else if i < 10 then [d] else []
theorem held_dx {H : Hp} {i : Nat} {v : V} {d : PyData} (h : Dx K H v d) : DxAll K H (heldL i v) (heldD i d) := by
  unfold heldL heldD
  split
  · exact .cons h (.cons (.str _) .nil)
  · split
    · exact .cons h (.cons (.str _) .nil)
    · split
      · exact .cons h .nil
      · exact .nil
theorem held_sm {i : Nat} {d : PyData} (h : Sm 4 4000 d) : Sm 5 9000 (.list (heldD i d)) := by
  have st : ∀ z : Str, (PyData.str z).shown.length ≤ 4000 → Sm 4 4000 (.str z) := fun z hz => ⟨by simp [PyData.showable], by simp [PyData.depth], hz⟩
  refine Sm.list (n := 4) (b := 4000) (m := 2) ?_ ?_ (by decide)
  · intro x hx
    unfold heldD at hx
    split at hx
    · simp only [List.mem_cons, List.not_mem_nil, or_false] at hx
      rcases hx with e | e
      · rw [e]; exact h
      · rw [e]; exact st _ (by decide +kernel)
    · split at hx
      · simp only [List.mem_cons, List.not_mem_nil, or_false] at hx
        rcases hx with e | e
        · rw [e]; exact h
        · rw [e]; exact st _ (by decide +kernel)
      · split at hx
        · rw [List.mem_singleton.mp hx]; exact h
        · exact absurd hx (by simp)
  · unfold heldD
    repeat (first | split | simp)
theorem in14 {i : Nat} (h : i < 13) : inV (.int i) [.int 1, .int 4] = (decide (i = 1) || decide (i = 4)) := by
  have : i = 0 ∨ i = 1 ∨ i = 2 ∨ i = 3 ∨ i = 4 ∨ i = 5 ∨ i = 6 ∨ i = 7 ∨ i = 8 ∨ i = 9 ∨ i = 10 ∨ i = 11 ∨ i = 12 := by omega
  rcases this with e | e | e | e | e | e | e | e | e | e | e | e | e <;> subst e <;> rfl
def Tail (K : PySem.W.Frag) (Cs : Nat → Addr) (i : Nat) (v x : V) (q r a : Addr) (Q : VK) (G : Hp) : Prop :=
  rReprX K [.ref r] G fun x_4 H1 => rReprX K [.ref q] H1 fun y H2 => scal x_4 y = true ∧ if (!decide (x_4 = y)) = true then Q (.bl false) H2
    else rReprX K [v] H2 fun x_5 H1 => scal x_5 x = true ∧ if (!decide (x_5 = x)) = true then Q (.bl false) H1
      else sp_kinds Cs [.ref a] H1 (fun x H1 => sp_due [.int i] H1 (fun y H2 => rEqD K x y H2 fun x H1 => ∃ c, x = V.bl c ∧
        if c = true then sp_raised Cs [.int i, v] H1 (fun x H1 => sp_due [.int i] H1 (fun y H2 => rEqD K x y H2 Q) E0) E0
        else Q (.bl false) H1) E0) E0
theorem rep {H : Hp} {v : V} {d : PyData} {n b : Nat} {Q : VK} (h : Dx K H v d) (s : Sm n b d) (hn : n ≤ 60) (hb : b ≤ 1000000) (q : Q (.str d.shown) H) : rReprX K [v] H Q :=
  ⟨v, d, rfl, h, s.sh, Nat.le_trans s.dp hn, line _ (Nat.le_trans s.ln hb), q⟩
theorem not_differ {x : V} {A B : Prop} (h : B) : if (!decide (x = x)) = true then A else B := by
  rw [if_neg]
  · exact h
  · simp
theorem tail_ok {H G : Hp} {i : Nat} {v : V} {d : PyData} {q r a : Addr} {d0 : Option Addr} {Q : VK} (hi : i < 13) (hs : Sm 4 4000 d) (s : Same H G) (hd : Dx K H v d)
    (eq : G q = some (.lst (heldL i v))) (er : G r = some (.lst (heldL i v))) (ea : G a = some (exo a (Cs i) d0)) (h0 : DictAt G d0)
    (k : ∀ H', Same H H' → Q (.bl true) H') : Tail K Cs i v (.str d.shown) q r a Q G := by
  have hd' := hd.sub s
  obtain ⟨g1, g2⟩ := kinds_good hi
  refine rep (.lst (.inl (.inl er)) (held_dx hd')) (held_sm hs) (by decide) (by decide) ?_
  refine rep (.lst (.inl (.inl eq)) (held_dx hd')) (held_sm hs) (by decide) (by decide) ?_
  refine ⟨rfl, not_differ ?_⟩
  refine rep hd' hs (by decide) (by decide) ?_
  refine ⟨rfl, not_differ ?_⟩
  refine ⟨a, i, d0, rfl, hi, ea, h0, fun H1 l1 s1 e1 => ⟨i, rfl, hi, fun H2 l2 s2 e2 => ?_⟩⟩
  refine ⟨kindsD i, kindsD i, kinds_dp (s2 _ _ e1), kinds_dp e2, g1, g1, ?_⟩
  rw [g2]
  refine ⟨true, rfl, ?_⟩
  rw [if_pos rfl]
  refine ⟨i, v, rfl, hi, fun H3 l3 s3 e3 => ⟨i, rfl, hi, fun H4 l4 s4 e4 => ?_⟩⟩
  refine ⟨kindsD i, kindsD i, kinds_dp (s4 _ _ e3), kinds_dp e4, g1, g1, ?_⟩
  rw [g2]
  exact k _ ((((s.trans s1).trans s2).trans s3).trans s4)
theorem ok_law_right {f : Addr} {fd : FuncData} (F : Fun K "_law_right" "_law_right" s_law_right f fd) (z_repr : mg "repr" = none)
    (D_law_made : Has P w K mg base 3 "_law_made" ["_law_which", "_law_thing_here"] (sp_made Cs))
    (D_law_kinds : Has P w K mg base 1 "_law_kinds" ["_law_e"] (sp_kinds Cs))
    (D_law_due : Has P w K mg base 1 "_law_due" ["_law_which"] sp_due)
    (D_law_raised : Has P w K mg base 3 "_law_raised" ["_law_which", "_law_thing_here"] (sp_raised Cs)) :
    FnG P w K mg base CX0 4 f fd ["_law_which", "_law_thing_here"] (sp_right K) := by
  refine okG F sc_law_right (fun vs H Q E h => ?_) (fun cdv A outer s H vs Q E hr hq h => ?_)
  · obtain ⟨i, v, d, rfl, _⟩ := h
    rfl
  · obtain ⟨i, v, d, rfl, hi, hd, hs, k⟩ := h
    have nd := sc_law_right.nd
    have hu : (A.deeper (envOfC "_law_right" (defScope s_law_right) s.heap.objs.size f cdv)).units + 1 < cLine := by
      have := hr.units
      omega
    refine ⟨_, (pss_cons (ps_set (i := 2) nd rfl (Or.inl rfl) (pe_callB (reprK K hr.units hq) (by rfl) z_repr (by decide +kernel) (pa_cons (pv 1) pa_nil)))
      (pss_cons (ps_asg (pe_c D_law_made (hr.mono (by decide)) hq (pa_cons (pv 0) (pa_cons (pv 1) pa_nil))) (id (pg_unl (by rfl) (pgs_cons (pg_name (i := 4) nd rfl (Or.inl rfl)) (pgs_cons (pg_name (i := 5) nd rfl (Or.inl rfl)) pgs_nil)))))
      (pss_cons (ps_set (i := 3) nd rfl (Or.inl rfl) (pe_lst (pa_cons (pv 1) pa_nil)))
      (pss_cons (ps_if (pt_cmpR (inK K) (pv 0) (pe_tup (pa_cons pe_int (pa_cons pe_int pa_nil))) rfl) (pss_one (ps_set (i := 3) nd rfl (Or.inl rfl) (pe_lst (pa_cons (pv 1) (pa_cons (pe_dget hu (pe_disp (pps_cons pe_int pe_str (pps_cons pe_int pe_str pps_nil)) (by rfl) (by rfl) (fun z => by cases z) (by decide)) (pv 0) (fun _ _ => rfl)) pa_nil))))) pss_nil)
      (pss_cons (ps_if (pt_cmpR op_gt (pv 0) pe_int (nomark _)) (pss_one (ps_set (i := 3) nd rfl (Or.inl rfl) (pe_lst pa_nil))) pss_nil)
      (pss_cons (ps_if (PW.pt (pw_or (pt_cmpR op_ne (pe_callB (reprK K hr.units hq) (by rfl) z_repr (by decide +kernel) (pa_cons (pv 5) pa_nil)) (pe_callB (reprK K hr.units hq) (by rfl) z_repr (by decide +kernel) (pa_cons (pv 3) pa_nil)) (nomark _)) (pw_or1 (pt_cmpR op_ne (pe_callB (reprK K hr.units hq) (by rfl) z_repr (by decide +kernel) (pa_cons (pv 1) pa_nil)) (pv 2) (nomark _))))) (pss_one (ps_ret pe_bl)) pss_nil)
      (pss_one (ps_ret (pe_and (pe_cmpR (eqDK K hr.units) (pe_c D_law_kinds (hr.mono (by decide)) hq (pa_cons (pv 4) pa_nil)) (pe_c D_law_due (hr.mono (by decide)) hq (pa_cons (pv 0) pa_nil)) (nomark _)) (pe_one (pe_cmpR (eqDK K hr.units) (pe_c D_law_raised (hr.mono (by decide)) hq (pa_cons (pv 0) (pa_cons (pv 1) pa_nil))) (pe_c D_law_due (hr.mono (by decide)) hq (pa_cons (pv 0) pa_nil)) (nomark _)))))))))))), ?_⟩
    simp (maxSteps := 10000000) only [tSeq, tAsg, gName, tVar, tC, tOp, tUn, tNil, tCons, tCall, tCB, tBM, tBM0, tSl, tNoPart, tPart, tRet, tRetN, tIf, tIfS, tB, tTest, tDrop, tNext, tTup, tLst, tAnd, tOr, tNot, tNotV, tYes, tIsN, tNotN, rI, rI0, rU, rEq, rNe, rPop, rAppend, rCat, rSetL, rIxL, rIxS, rSlL, tRevL, tFor_eq, tWhile_eq, tLc_eq, iList, iTup, iRng1, iRng2, iStr, iZip, gTup, gCons, gNil, gSub, L2.start, Lay.cx_K, CDiv, CDivN, CPow, List.map_cons, List.map_nil, List.length_cons, List.length_nil, List.replicate_succ, List.replicate_zero, List.cons_append, List.nil_append, List.append_nil, List.set_cons_zero, List.set_cons_succ, List.getElem?_cons_zero, List.getElem?_cons_succ, Option.some.injEq, exists_eq_left', V.int.injEq, V.str.injEq, V.ref.injEq, V.bl.injEq, List.cons.injEq, and_true, true_and, exists_and_left, exists_eq_left, exists_eq, and_assoc, Nat.reduceAdd, Nat.reduceSub, Nat.zero_add, exists_and_right, exists_const, L2.wipe, if_true, if_false, tBits, rLenK, rCopyK, rTupleK, gUnl, tDGet, tDisp, tAndV, tPairs, N_law_right]
    refine rep hd hs (by decide) (by decide) ?_
    refine ⟨i, v, rfl, hi, ?_⟩
    intro H1 q0 r a d0 s1 e0 er ea hd0
    refine ⟨q0, rfl, _, .inl (.inl e0), rfl, _, _, rfl, _, _, rfl, rfl, line _, fun p hp => ⟨line _, fun p1 hp1 => ?_⟩⟩
    have sP := sameU (o := .tup [.int 1, .int 4]) (same_upd (o := .lst [v]) hp) hp1
    have eP := same_upd (o := .tup [.int 1, .int 4]) hp1 _ _ (show upd H1 p (.lst [v]) p = some (.lst [v]) from upd_same)
    refine ⟨p1, _, rfl, .inr (.inl (.inl upd_same)), rfl, rfl, ?_⟩
    generalize upd (upd H1 p (.lst [v])) p1 (.tup [.int 1, .int 4]) = G at sP eP
    have base : ∀ (q : Addr) (F : Hp), Same G F → F q = some (.lst (heldL i v)) → Tail K Cs i v (.str d.shown) q r a Q F := by
      intro q F sF eq
      exact tail_ok hi hs ((s1.trans sP).trans sF) hd eq (sF _ _ (sP _ _ er)) (sF _ _ (sP _ _ ea)) ((hd0.same sP).same sF) k
    refine ⟨_, rfl, ite2 (fun c => ?_) (fun c => ?_)⟩
    · intro p2 hp2
      refine ⟨upd_same, [(.inl 1, .str "ring"), (.inl 4, .str "noticed")], rfl, by decide, ?_⟩
      have i14 : i = 1 ∨ i = 4 := by
        have c' : inV (.int i) [.int 1, .int 4] = true := c
        rw [in14 hi] at c'
        simpa using c'
      have e9 : ¬ (decide ((9 : Int) < i) = true) := by
        intro z
        have := of_decide_eq_true z
        omega
      have hG : ∀ o, Same G (upd (upd G p2 (.dK [])) p2 o) := by
        intro o b x e
        have nb := ne_of_none e hp2
        rw [upd_ne nb, upd_ne nb]
        exact e
      rcases i14 with z | z <;> subst z
      · refine ⟨.str "ring", .inl ⟨_, .inl 1, .inl upd_same, rfl, rfl⟩, line _, fun p3 hp3 => ?_⟩
        rw [if_neg e9]
        exact base p3 _ ((hG _).trans (same_upd hp3)) upd_same
      · refine ⟨.str "noticed", .inl ⟨_, .inl 4, .inl upd_same, rfl, rfl⟩, line _, fun p3 hp3 => ?_⟩
        rw [if_neg e9]
        exact base p3 _ ((hG _).trans (same_upd hp3)) upd_same
    · have n14 : i ≠ 1 ∧ i ≠ 4 := by
        have c' : ¬ (inV (.int i) [.int 1, .int 4] = true) := c
        rw [in14 hi] at c'
        simp only [Bool.or_eq_true, decide_eq_true_eq, not_or] at c'
        exact c'
      refine ite2 (fun c2 => ⟨line _, fun p2 hp2 => ?_⟩) (fun c2 => ?_)
      · refine base p2 _ (same_upd hp2) ?_
        rw [upd_same]
        have := of_decide_eq_true c2
        unfold heldL
        rw [if_neg n14.1, if_neg n14.2, if_neg (by omega)]
      · refine base p _ (Same.refl G) ?_
        rw [eP]
        have : ¬ (9 : Int) < i := fun z => c2 (decide_eq_true z)
        unfold heldL
        rw [if_neg n14.1, if_neg n14.2, if_pos (by omega)]
end
end C01
namespace C01
open PySem PySem.Spec PyProof.Rows L2 Lay
section
variable {P : Program} {w : World} {K : PySem.W.Frag} {mg : Str → Option Value} {base : Heap} {Cs : Nat → Addr}
def byD (d : PyData) : List PyData := [d, d, .str "ring", d, d, d, .str "noticed", d, d, d, d, d]
theorem by_dx {H : Hp} {v : V} {d : PyData} (h : Dx K H v d) : DxAll K H (byL v) (byD d) :=
  .cons h (.cons h (.cons (.str _) (.cons h (.cons h (.cons h (.cons (.str _) (.cons h (.cons h (.cons h (.cons h (.cons h .nil)))))))))))
theorem by_sm {d : PyData} (h : Sm 4 4000 d) : Sm 5 90000 (.list (byD d)) := by
  have st : ∀ z : Str, (PyData.str z).shown.length ≤ 4000 → Sm 4 4000 (.str z) := fun z hz => ⟨by simp [PyData.showable], by simp [PyData.depth], hz⟩
  refine Sm.list (n := 4) (b := 4000) (m := 12) ?_ (by show 12 ≤ 12; decide) (by decide)
  intro x hx
  simp only [byD, List.mem_cons, List.not_mem_nil, or_false] at hx
  rcases hx with e | e | e | e | e | e | e | e | e | e | e | e <;> rw [e] <;> first | exact h | exact st _ (by decide +kernel)
def invO (a p l : Addr) (t : Nat) (τ : L2.St) (G : Hp) : Prop := ∃ (n : Nat) (w2 w3 w4 w5 : Option V),
  τ = [some (.ref a), some (.ref p), w2, w3, w4, w5] ∧ Feed G p l n ∧ n ≤ t * 4000 ∧ t ≤ 3
def invI (a p l : Addr) (t j : Nat) (τ : L2.St) (G : Hp) : Prop := ∃ (n : Nat) (w2 w3 w4 w5 : Option V),
  τ = [some (.ref a), some (.ref p), w2, w3, w4, w5] ∧ Feed G p l n ∧ n ≤ t * 4000 + j * 256 ∧ j ≤ 13
def sp_law (K : PySem.W.Frag) : Sp := fun vs H Q _ => ∃ (a : Addr) (ns : List Int), vs = [.ref a] ∧ SqL K H a (ns.map V.int) ∧ ns.length ≤ 63 ∧ ∀ H', Q (.bl true) H'
theorem ok_law {f : Addr} {fd : FuncData} (F : Fun K "law" "law" s_law f fd) (z_range : mg "range" = none) (z_repr : mg "repr" = none)
    (D_law_feed : Has P w K mg base 1 "_law_feed" ["_law_script"] (sp_feed K))
    (D_law_thing : Has P w K mg base 6 "_law_thing" ["_law_feed_here", "_law_deep"] (sp_thing K 3))
    (D_law_right : Has P w K mg base 4 "_law_right" ["_law_which", "_law_thing_here"] (sp_right K))
    (D_law_by_name : Has P w K mg base 3 "_law_by_name" ["_law_thing_here"] sp_by) :
    FnG P w K mg base CX0 7 f fd ["_law_script"] (sp_law K) := by
  refine okG F sc_law (fun vs H Q E h => ?_) (fun cdv A outer s H vs Q E hr hq h => ?_)
  · obtain ⟨a, ns, rfl, _⟩ := h
    rfl
  · obtain ⟨a, ns, rfl, ha, hn, k⟩ := h
    have nd := sc_law.nd
    refine ⟨_, (pss_cons (ps_set (i := 1) nd rfl (Or.inl rfl) (pe_c D_law_feed (hr.mono (by decide)) hq (pa_cons (pv 0) pa_nil)))
      (pss_cons (ps_for PassesOwn.never rfl (pi_range1 (by rfl) z_range (pa_cons pe_int pa_nil)) (pg_name (i := 2) nd rfl (Or.inl rfl))
        (pss_cons (ps_for PassesOwn.never rfl (pi_range1 (by rfl) z_range (pa_cons pe_int pa_nil)) (pg_name (i := 3) nd rfl (Or.inl rfl))
          (pss_one (ps_if (pt_not (pt_val (pe_c D_law_right (hr.mono (by decide)) hq (pa_cons (pv 3) (pa_cons (pe_c D_law_thing (hr.mono (by decide)) hq (pa_cons (pv 1) (pa_cons pe_int pa_nil))) pa_nil))))) (pss_one (ps_ret pe_bl)) pss_nil)))
        (pss_cons (ps_set (i := 4) nd rfl (Or.inl rfl) (pe_c D_law_thing (hr.mono (by decide)) hq (pa_cons (pv 1) (pa_cons pe_int pa_nil))))
        (pss_cons (ps_set (i := 5) nd rfl (Or.inl rfl) (pe_lst (pa_cons (pv 4) (pa_cons (pv 4) (pa_cons pe_str (pa_cons (pv 4) (pa_cons (pv 4) (pa_cons (pv 4) (pa_cons pe_str (pa_cons (pv 4) (pa_cons (pv 4) (pa_cons (pv 4) (pa_cons (pv 4) (pa_cons (pv 4) pa_nil))))))))))))))
        (pss_one (ps_if (pt_cmpR op_ne (pe_callB (reprK K hr.units hq) (by rfl) z_repr (by decide +kernel) (pa_cons (pe_c D_law_by_name (hr.mono (by decide)) hq (pa_cons (pv 4) pa_nil)) pa_nil)) (pe_callB (reprK K hr.units hq) (by rfl) z_repr (by decide +kernel) (pa_cons (pv 5) pa_nil)) (nomark _)) (pss_one (ps_ret pe_bl)) pss_nil))))))
      (pss_one (ps_ret pe_bl)))), ?_⟩
    simp only [tSeq, tAsg, gName, tVar, tC, tOp, tUn, tNil, tCons, tCall, tCB, tBM, tBM0, tSl, tNoPart, tPart, tRet, tRetN, tIf, tIfS, tB, tTest, tDrop, tNext, tTup, tLst, tAnd, tOr, tNot, tNotV, tYes, tIsN, tNotN, rI, rI0, rU, rEq, rNe, rPop, rAppend, rCat, rSetL, rIxL, rIxS, rSlL, tRevL, tFor_eq, tWhile_eq, tLc_eq, iList, iTup, iRng1, iRng2, iStr, iZip, gTup, gCons, gNil, gSub, L2.start, Lay.cx_K, CDiv, CDivN, CPow, List.map_cons, List.map_nil, List.length_cons, List.length_nil, List.replicate_succ, List.replicate_zero, List.cons_append, List.nil_append, List.append_nil, List.set_cons_zero, List.set_cons_succ, List.getElem?_cons_zero, List.getElem?_cons_succ, Option.some.injEq, exists_eq_left', V.int.injEq, V.str.injEq, V.ref.injEq, V.bl.injEq, List.cons.injEq, and_true, true_and, exists_and_left, exists_eq_left, exists_eq, and_assoc, Nat.reduceAdd, Nat.reduceSub, Nat.zero_add, exists_and_right, exists_const, L2.wipe, if_true, if_false, tBits, rLenK, rCopyK, rTupleK, N_law]
    refine ⟨a, ns, rfl, ha, hn, ?_⟩
    intro p l H1 s1 n1 n2 f1
    refine ⟨by decide, by decide, ?_⟩
    refine Loop.range (invO a p l)
      ⟨0, _, _, _, _, rfl, f1, by omega, by decide⟩ ?_ ?_
    · rintro t τ G ht ⟨n, w2, w3, w4, w5, rfl, fG, hn4, _⟩
      have ht3 : t < 3 := ht
      simp only [tSeq, tAsg, gName, tVar, tC, tOp, tUn, tNil, tCons, tCall, tCB, tBM, tBM0, tSl, tNoPart, tPart, tRet, tRetN, tIf, tIfS, tB, tTest, tDrop, tNext, tTup, tLst, tAnd, tOr, tNot, tNotV, tYes, tIsN, tNotN, rI, rI0, rU, rEq, rNe, rPop, rAppend, rCat, rSetL, rIxL, rIxS, rSlL, tRevL, tFor_eq, tWhile_eq, tLc_eq, iList, iTup, iRng1, iRng2, iStr, iZip, gTup, gCons, gNil, gSub, L2.start, Lay.cx_K, CDiv, CDivN, CPow, List.map_cons, List.map_nil, List.length_cons, List.length_nil, List.replicate_succ, List.replicate_zero, List.cons_append, List.nil_append, List.append_nil, List.set_cons_zero, List.set_cons_succ, List.getElem?_cons_zero, List.getElem?_cons_succ, Option.some.injEq, exists_eq_left', V.int.injEq, V.str.injEq, V.ref.injEq, V.bl.injEq, List.cons.injEq, and_true, true_and, exists_and_left, exists_eq_left, exists_eq, and_assoc, Nat.reduceAdd, Nat.reduceSub, Nat.zero_add, exists_and_right, exists_const, L2.wipe, if_true, if_false, tBits, rLenK, rCopyK, rTupleK]
      refine ⟨by decide, by decide, ?_⟩
      refine Loop.range (invI a p l t)
        ⟨n, _, _, _, _, rfl, fG, by omega, by decide⟩ ?_ ?_
      · rintro j τ F hj ⟨m, u2, u3, u4, u5, rfl, fF, hm, _⟩
        have hj13 : j < 13 := hj
        simp only [tSeq, tAsg, gName, tVar, tC, tOp, tUn, tNil, tCons, tCall, tCB, tBM, tBM0, tSl, tNoPart, tPart, tRet, tRetN, tIf, tIfS, tB, tTest, tDrop, tNext, tTup, tLst, tAnd, tOr, tNot, tNotV, tYes, tIsN, tNotN, rI, rI0, rU, rEq, rNe, rPop, rAppend, rCat, rSetL, rIxL, rIxS, rSlL, tRevL, tFor_eq, tWhile_eq, tLc_eq, iList, iTup, iRng1, iRng2, iStr, iZip, gTup, gCons, gNil, gSub, L2.start, Lay.cx_K, CDiv, CDivN, CPow, List.map_cons, List.map_nil, List.length_cons, List.length_nil, List.replicate_succ, List.replicate_zero, List.cons_append, List.nil_append, List.append_nil, List.set_cons_zero, List.set_cons_succ, List.getElem?_cons_zero, List.getElem?_cons_succ, Option.some.injEq, exists_eq_left', V.int.injEq, V.str.injEq, V.ref.injEq, V.bl.injEq, List.cons.injEq, and_true, true_and, exists_and_left, exists_eq_left, exists_eq, and_assoc, Nat.reduceAdd, Nat.reduceSub, Nat.zero_add, exists_and_right, exists_const, L2.wipe, if_true, if_false, tBits, rLenK, rCopyK, rTupleK]
        refine ⟨p, l, m, rfl, fF, by omega, ?_⟩
        intro v d F' m' hd hs hm' f' _
        refine ⟨j, v, d, ?_, hj13, hd.sub (new_sub _ _), hs.mono (by decide) (by decide), ?_⟩
        · congr 2
          omega
        intro F'' s2
        refine ⟨true, rfl, ?_⟩
        refine ⟨m', _, _, _, _, rfl, f'.same s2, ?_, by omega⟩
        have : 4 ^ (3 + 1) = 256 := by decide
        omega
      · rintro τ F ⟨m, u2, u3, u4, u5, rfl, fF, hm, _⟩
        have hm2 : m ≤ t * 4000 + 13 * 256 := hm
        simp only [tSeq, tAsg, gName, tVar, tC, tOp, tUn, tNil, tCons, tCall, tCB, tBM, tBM0, tSl, tNoPart, tPart, tRet, tRetN, tIf, tIfS, tB, tTest, tDrop, tNext, tTup, tLst, tAnd, tOr, tNot, tNotV, tYes, tIsN, tNotN, rI, rI0, rU, rEq, rNe, rPop, rAppend, rCat, rSetL, rIxL, rIxS, rSlL, tRevL, tFor_eq, tWhile_eq, tLc_eq, iList, iTup, iRng1, iRng2, iStr, iZip, gTup, gCons, gNil, gSub, L2.start, Lay.cx_K, CDiv, CDivN, CPow, List.map_cons, List.map_nil, List.length_cons, List.length_nil, List.replicate_succ, List.replicate_zero, List.cons_append, List.nil_append, List.append_nil, List.set_cons_zero, List.set_cons_succ, List.getElem?_cons_zero, List.getElem?_cons_succ, Option.some.injEq, exists_eq_left', V.int.injEq, V.str.injEq, V.ref.injEq, V.bl.injEq, List.cons.injEq, and_true, true_and, exists_and_left, exists_eq_left, exists_eq, and_assoc, Nat.reduceAdd, Nat.reduceSub, Nat.zero_add, exists_and_right, exists_const, L2.wipe, if_true, if_false, tBits, rLenK, rCopyK, rTupleK]
        refine ⟨p, l, m, rfl, fF, by omega, ?_⟩
        intro v d F' m' hd hs hm' f' _
        refine ⟨line _, fun q hq' => ?_⟩
        have hd1 := (hd.sub (new_sub _ _)).sub (same_upd (o := .lst [v, v, .str "ring", v, v, v, .str "noticed", v, v, v, v, v]) hq')
        have hs4 : Sm 4 4000 d := hs.mono (by decide) (by decide)
        have eq : upd F' q (.lst [v, v, .str "ring", v, v, v, .str "noticed", v, v, v, v, v]) q = some (.lst (byL v)) := upd_same
        have fq := f'.same (same_upd (o := .lst [v, v, .str "ring", v, v, v, .str "noticed", v, v, v, v, v]) hq')
        generalize upd F' q (.lst [v, v, .str "ring", v, v, v, .str "noticed", v, v, v, v, v]) = G1 at hd1 eq fq
        refine ⟨v, rfl, fun G2 r s2 er => ?_⟩
        refine rep (.lst (.inl (.inl er)) (by_dx (hd1.sub s2))) (by_sm hs4) (by decide) (by decide) ?_
        refine rep (.lst (.inl (.inl (s2 _ _ eq))) (by_dx (hd1.sub s2))) (by_sm hs4) (by decide) (by decide) ?_
        refine ⟨rfl, not_differ ?_⟩
        refine ⟨m', _, _, _, _, rfl, fq.same s2, ?_, by omega⟩
        have : 4 ^ (3 + 1) = 256 := by decide
        omega
    · rintro τ G ⟨n, w2, w3, w4, w5, rfl, _⟩
      simp only [tSeq, tAsg, gName, tVar, tC, tOp, tUn, tNil, tCons, tCall, tCB, tBM, tBM0, tSl, tNoPart, tPart, tRet, tRetN, tIf, tIfS, tB, tTest, tDrop, tNext, tTup, tLst, tAnd, tOr, tNot, tNotV, tYes, tIsN, tNotN, rI, rI0, rU, rEq, rNe, rPop, rAppend, rCat, rSetL, rIxL, rIxS, rSlL, tRevL, tFor_eq, tWhile_eq, tLc_eq, iList, iTup, iRng1, iRng2, iStr, iZip, gTup, gCons, gNil, gSub, L2.start, Lay.cx_K, CDiv, CDivN, CPow, List.map_cons, List.map_nil, List.length_cons, List.length_nil, List.replicate_succ, List.replicate_zero, List.cons_append, List.nil_append, List.append_nil, List.set_cons_zero, List.set_cons_succ, List.getElem?_cons_zero, List.getElem?_cons_succ, Option.some.injEq, exists_eq_left', V.int.injEq, V.str.injEq, V.ref.injEq, V.bl.injEq, List.cons.injEq, and_true, true_and, exists_and_left, exists_eq_left, exists_eq, and_assoc, Nat.reduceAdd, Nat.reduceSub, Nat.zero_add, exists_and_right, exists_const, L2.wipe, if_true, if_false, tBits, rLenK, rCopyK, rTupleK]
      exact k G
end
end C01
namespace C01
open PySem PySem.Spec PyProof.Rows L2 Lay
abbrev six : List Str := ["word", "names", "stranger", "part", "handle", "limit"]
/-- what the text has written of the classes, asked at once -/
def exB (K : PySem.W.Frag) (C : Addr) : Bool := PySem.W.excInitIn K C top3 "Exception.__new__" && PySem.W.excOver K C top3 && PySem.W.hasDictIn K C &&
  (PySem.W.findIn K (.ref C) "__setattr__" == some (some (.builtin "object.__setattr__"))) &&
  (PySem.W.findIn K (.ref C) "__getattribute__" == some (some (.builtin "BaseException.__getattribute__"))) &&
  (PySem.W.findIn K (.ref C) "__getattr__" == some none) && (PySem.W.subIn K (.ref C) (.type "BaseException") == some true) &&
  (PySem.W.typeIn K (.ref C) == some (.type "type")) && PySem.W.keepIn K (.ref C) &&
  (PySem.W.findIn K (.ref C) "__class__" == some (some (.builtin "object.__class__"))) && (PySem.W.mroIn K C (.type "object") == some true)
def nth (cs : List Addr) (i : Nat) : Addr := cs.getD i 0
def allB (K : PySem.W.Frag) (cs : List Addr) : Bool := ((List.range 13).all fun i => exB K (nth cs i)) &&
  ((List.range 13).all fun i => (List.range 14).all fun j => PySem.W.kitOne K (.ref (nth cs i)) (.ref (nth cs j)) == some (tab i j)) &&
  ((List.range 13).all fun i => PySem.W.kitOne K (.ref (nth cs i)) (.type "Exception") == some true) &&
  ((List.range 13).all fun i => PySem.W.exmOne K (.ref (nth cs i)) (.ref (nth cs 13)) == some true) &&
  ((List.range 10).all fun i => six.all fun f => PySem.W.findIn K (.ref (nth cs i)) f == some none)
theorem ex_of {K : PySem.W.Frag} {C : Addr} (h : exB K C = true) : ExC K C ∧ IsC K C := by
  unfold exB at h
  simp only [Bool.and_eq_true, beq_iff_eq] at h
  obtain ⟨⟨⟨⟨⟨⟨⟨⟨⟨⟨h1, h2⟩, h3⟩, h4⟩, h5⟩, h6⟩, h7⟩, h8⟩, h9⟩, h10⟩, h11⟩ := h
  have e : ExC K C := ⟨h1, h2, h3, h4, h5, h6, h7, h8, h9⟩
  exact ⟨e, e, h10, h11⟩
theorem all_of {K : PySem.W.Frag} {cs : List Addr} (h : allB K cs = true) : (∀ i, i < 13 → ExC K (nth cs i) ∧ IsC K (nth cs i)) ∧
    (∀ i, i < 13 → ∀ j, j < 14 → PySem.W.kitOne K (.ref (nth cs i)) (.ref (nth cs j)) = some (tab i j)) ∧
    (∀ i, i < 13 → PySem.W.kitOne K (.ref (nth cs i)) (.type "Exception") = some true) ∧
    (∀ i, i < 13 → PySem.W.exmOne K (.ref (nth cs i)) (.ref (nth cs 13)) = some true) ∧
    (∀ i, i < 10 → ∀ f ∈ six, PySem.W.findIn K (.ref (nth cs i)) f = some none) := by
  unfold allB at h
  simp only [Bool.and_eq_true, List.all_eq_true, List.mem_range, beq_iff_eq] at h
  obtain ⟨⟨⟨⟨h1, h2⟩, h3⟩, h4⟩, h5⟩ := h
  exact ⟨fun i hi => ex_of (h1 i hi), h2, h3, h4, h5⟩
section
variable {P : Program} {w : World} {K : PySem.W.Frag} {mg : Str → Option Value} {base : Heap} {k m : Nat} {f : Addr} {fd : FuncData} {ps : List Str}
theorem less_of (F : FnG P w K mg base CX0 k f fd ps (sp_thing K m)) : FnG P w K mg base CX0 k f fd ps (sp_less K (m + 1)) where
  len := by
    rintro zs G R Z ⟨m', e, h⟩
    obtain rfl : m = m' := by omega
    exact F.len _ _ _ _ h
  run := by
    rintro A out t G ar ws zs R Z hr hq he hb hv ⟨m', e, h⟩
    obtain rfl : m = m' := by omega
    exact F.run A out t G ar ws zs R Z hr hq he hb hv h
theorem less_none : FnG P w K mg base CX0 k f fd ps (sp_less K 0) where
  len := by
    rintro zs G R Z ⟨m', e, h⟩
    omega
  run := by
    rintro A out t G ar ws zs R Z hr hq he hb hv ⟨m', e, h⟩
    omega
end
theorem all_mk {l : PySem.W.OpenLaw} {w : World} {K : PySem.W.Frag} {h : Heap} {mg : Str → Option Value} {fa : Addr} (X : K.In h) (G : h.Ns mainGlobals mg)
    (hfa : mg "law" = some (.ref fa))
    {C0 C1 C2 C3 C4 C5 C6 C7 C8 C9 C10 C11 C12 C13 : Addr}
    (n_0 : PySem.W.nsIn K mainGlobals "NoStore" = some (some (.ref C0)))
    (n_1 : PySem.W.nsIn K mainGlobals "Ring" = some (some (.ref C1)))
    (n_2 : PySem.W.nsIn K mainGlobals "NoLot" = some (some (.ref C2)))
    (n_3 : PySem.W.nsIn K mainGlobals "NoEdit" = some (some (.ref C3)))
    (n_4 : PySem.W.nsIn K mainGlobals "Noticed" = some (some (.ref C4)))
    (n_5 : PySem.W.nsIn K mainGlobals "NoContext" = some (some (.ref C5)))
    (n_6 : PySem.W.nsIn K mainGlobals "NoModule" = some (some (.ref C6)))
    (n_7 : PySem.W.nsIn K mainGlobals "NoWrite" = some (some (.ref C7)))
    (n_8 : PySem.W.nsIn K mainGlobals "NotHeld" = some (some (.ref C8)))
    (n_9 : PySem.W.nsIn K mainGlobals "TooMany" = some (some (.ref C9)))
    (n_10 : PySem.W.nsIn K mainGlobals "InvalidText" = some (some (.ref C10)))
    (n_11 : PySem.W.nsIn K mainGlobals "InvalidCommand" = some (some (.ref C11)))
    (n_12 : PySem.W.nsIn K mainGlobals "NothingDone" = some (some (.ref C12)))
    (n_13 : PySem.W.nsIn K mainGlobals "HeldError" = some (some (.ref C13)))
    (big : allB K [C0, C1, C2, C3, C4, C5, C6, C7, C8, C9, C10, C11, C12, C13] = true)
    (gt : PySem.W.specialIn K (.builtin "object.__class__") "__get__" = some (some (.builtin "getset_descriptor.__get__"))) (tk : PySem.W.takesIn K (.builtin "object.__class__") = some true)
    {f_NoStore_init : Addr} {od_NoStore_init an_NoStore_init : Option Addr} {sl_NoStore_init : Array (Option Value)} {oc_NoStore_init kV_NoStore_init dc_NoStore_init pm_NoStore_init cd_NoStore_init ct_NoStore_init : Value}
    (a_NoStore_init : PySem.W.findIn K (.ref C0) "__init__" = some (some (.ref f_NoStore_init))) (t_NoStore_init : PySem.W.typeIn K (.ref f_NoStore_init) = some (.type "function"))
    (l_NoStore_init : K.lookup f_NoStore_init = some ⟨oc_NoStore_init, od_NoStore_init, .func (PySem.W.fnOf "__init__" "NoStore.__init__" (defArgs s_NoStore_init) (defBody s_NoStore_init) (defScope s_NoStore_init) .none kV_NoStore_init dc_NoStore_init pm_NoStore_init an_NoStore_init cd_NoStore_init ct_NoStore_init), sl_NoStore_init⟩)
    (c_NoStore_init : PySem.W.codeIn K cd_NoStore_init "NoStore.__init__" = true) (k_NoStore_init : PySem.W.keepIn K (.ref f_NoStore_init) = true)
    {f_Ring_init : Addr} {od_Ring_init an_Ring_init : Option Addr} {sl_Ring_init : Array (Option Value)} {oc_Ring_init kV_Ring_init dc_Ring_init pm_Ring_init cd_Ring_init ct_Ring_init : Value}
    (a_Ring_init : PySem.W.findIn K (.ref C1) "__init__" = some (some (.ref f_Ring_init))) (t_Ring_init : PySem.W.typeIn K (.ref f_Ring_init) = some (.type "function"))
    (l_Ring_init : K.lookup f_Ring_init = some ⟨oc_Ring_init, od_Ring_init, .func (PySem.W.fnOf "__init__" "Ring.__init__" (defArgs s_Ring_init) (defBody s_Ring_init) (defScope s_Ring_init) .none kV_Ring_init dc_Ring_init pm_Ring_init an_Ring_init cd_Ring_init ct_Ring_init), sl_Ring_init⟩)
    (c_Ring_init : PySem.W.codeIn K cd_Ring_init "Ring.__init__" = true) (k_Ring_init : PySem.W.keepIn K (.ref f_Ring_init) = true)
    {f_NoLot_init : Addr} {od_NoLot_init an_NoLot_init : Option Addr} {sl_NoLot_init : Array (Option Value)} {oc_NoLot_init kV_NoLot_init dc_NoLot_init pm_NoLot_init cd_NoLot_init ct_NoLot_init : Value}
    (a_NoLot_init : PySem.W.findIn K (.ref C2) "__init__" = some (some (.ref f_NoLot_init))) (t_NoLot_init : PySem.W.typeIn K (.ref f_NoLot_init) = some (.type "function"))
    (l_NoLot_init : K.lookup f_NoLot_init = some ⟨oc_NoLot_init, od_NoLot_init, .func (PySem.W.fnOf "__init__" "NoLot.__init__" (defArgs s_NoLot_init) (defBody s_NoLot_init) (defScope s_NoLot_init) .none kV_NoLot_init dc_NoLot_init pm_NoLot_init an_NoLot_init cd_NoLot_init ct_NoLot_init), sl_NoLot_init⟩)
    (c_NoLot_init : PySem.W.codeIn K cd_NoLot_init "NoLot.__init__" = true) (k_NoLot_init : PySem.W.keepIn K (.ref f_NoLot_init) = true)
    {f_NoEdit_init : Addr} {od_NoEdit_init an_NoEdit_init : Option Addr} {sl_NoEdit_init : Array (Option Value)} {oc_NoEdit_init kV_NoEdit_init dc_NoEdit_init pm_NoEdit_init cd_NoEdit_init ct_NoEdit_init : Value}
    (a_NoEdit_init : PySem.W.findIn K (.ref C3) "__init__" = some (some (.ref f_NoEdit_init))) (t_NoEdit_init : PySem.W.typeIn K (.ref f_NoEdit_init) = some (.type "function"))
    (l_NoEdit_init : K.lookup f_NoEdit_init = some ⟨oc_NoEdit_init, od_NoEdit_init, .func (PySem.W.fnOf "__init__" "NoEdit.__init__" (defArgs s_NoEdit_init) (defBody s_NoEdit_init) (defScope s_NoEdit_init) .none kV_NoEdit_init dc_NoEdit_init pm_NoEdit_init an_NoEdit_init cd_NoEdit_init ct_NoEdit_init), sl_NoEdit_init⟩)
    (c_NoEdit_init : PySem.W.codeIn K cd_NoEdit_init "NoEdit.__init__" = true) (k_NoEdit_init : PySem.W.keepIn K (.ref f_NoEdit_init) = true)
    {f_Noticed_init : Addr} {od_Noticed_init an_Noticed_init : Option Addr} {sl_Noticed_init : Array (Option Value)} {oc_Noticed_init kV_Noticed_init dc_Noticed_init pm_Noticed_init cd_Noticed_init ct_Noticed_init : Value}
    (a_Noticed_init : PySem.W.findIn K (.ref C4) "__init__" = some (some (.ref f_Noticed_init))) (t_Noticed_init : PySem.W.typeIn K (.ref f_Noticed_init) = some (.type "function"))
    (l_Noticed_init : K.lookup f_Noticed_init = some ⟨oc_Noticed_init, od_Noticed_init, .func (PySem.W.fnOf "__init__" "Noticed.__init__" (defArgs s_Noticed_init) (defBody s_Noticed_init) (defScope s_Noticed_init) .none kV_Noticed_init dc_Noticed_init pm_Noticed_init an_Noticed_init cd_Noticed_init ct_Noticed_init), sl_Noticed_init⟩)
    (c_Noticed_init : PySem.W.codeIn K cd_Noticed_init "Noticed.__init__" = true) (k_Noticed_init : PySem.W.keepIn K (.ref f_Noticed_init) = true)
    {f_NoContext_init : Addr} {od_NoContext_init an_NoContext_init : Option Addr} {sl_NoContext_init : Array (Option Value)} {oc_NoContext_init kV_NoContext_init dc_NoContext_init pm_NoContext_init cd_NoContext_init ct_NoContext_init : Value}
    (a_NoContext_init : PySem.W.findIn K (.ref C5) "__init__" = some (some (.ref f_NoContext_init))) (t_NoContext_init : PySem.W.typeIn K (.ref f_NoContext_init) = some (.type "function"))
    (l_NoContext_init : K.lookup f_NoContext_init = some ⟨oc_NoContext_init, od_NoContext_init, .func (PySem.W.fnOf "__init__" "NoContext.__init__" (defArgs s_NoContext_init) (defBody s_NoContext_init) (defScope s_NoContext_init) .none kV_NoContext_init dc_NoContext_init pm_NoContext_init an_NoContext_init cd_NoContext_init ct_NoContext_init), sl_NoContext_init⟩)
    (c_NoContext_init : PySem.W.codeIn K cd_NoContext_init "NoContext.__init__" = true) (k_NoContext_init : PySem.W.keepIn K (.ref f_NoContext_init) = true)
    {f_NoModule_init : Addr} {od_NoModule_init an_NoModule_init : Option Addr} {sl_NoModule_init : Array (Option Value)} {oc_NoModule_init kV_NoModule_init dc_NoModule_init pm_NoModule_init cd_NoModule_init ct_NoModule_init : Value}
    (a_NoModule_init : PySem.W.findIn K (.ref C6) "__init__" = some (some (.ref f_NoModule_init))) (t_NoModule_init : PySem.W.typeIn K (.ref f_NoModule_init) = some (.type "function"))
    (l_NoModule_init : K.lookup f_NoModule_init = some ⟨oc_NoModule_init, od_NoModule_init, .func (PySem.W.fnOf "__init__" "NoModule.__init__" (defArgs s_NoModule_init) (defBody s_NoModule_init) (defScope s_NoModule_init) .none kV_NoModule_init dc_NoModule_init pm_NoModule_init an_NoModule_init cd_NoModule_init ct_NoModule_init), sl_NoModule_init⟩)
    (c_NoModule_init : PySem.W.codeIn K cd_NoModule_init "NoModule.__init__" = true) (k_NoModule_init : PySem.W.keepIn K (.ref f_NoModule_init) = true)
    {f_NoWrite_init : Addr} {od_NoWrite_init an_NoWrite_init : Option Addr} {sl_NoWrite_init : Array (Option Value)} {oc_NoWrite_init kV_NoWrite_init dc_NoWrite_init pm_NoWrite_init cd_NoWrite_init ct_NoWrite_init : Value}
    (a_NoWrite_init : PySem.W.findIn K (.ref C7) "__init__" = some (some (.ref f_NoWrite_init))) (t_NoWrite_init : PySem.W.typeIn K (.ref f_NoWrite_init) = some (.type "function"))
    (l_NoWrite_init : K.lookup f_NoWrite_init = some ⟨oc_NoWrite_init, od_NoWrite_init, .func (PySem.W.fnOf "__init__" "NoWrite.__init__" (defArgs s_NoWrite_init) (defBody s_NoWrite_init) (defScope s_NoWrite_init) .none kV_NoWrite_init dc_NoWrite_init pm_NoWrite_init an_NoWrite_init cd_NoWrite_init ct_NoWrite_init), sl_NoWrite_init⟩)
    (c_NoWrite_init : PySem.W.codeIn K cd_NoWrite_init "NoWrite.__init__" = true) (k_NoWrite_init : PySem.W.keepIn K (.ref f_NoWrite_init) = true)
    {f_NotHeld_init : Addr} {od_NotHeld_init an_NotHeld_init : Option Addr} {sl_NotHeld_init : Array (Option Value)} {oc_NotHeld_init kV_NotHeld_init dc_NotHeld_init pm_NotHeld_init cd_NotHeld_init ct_NotHeld_init : Value}
    (a_NotHeld_init : PySem.W.findIn K (.ref C8) "__init__" = some (some (.ref f_NotHeld_init))) (t_NotHeld_init : PySem.W.typeIn K (.ref f_NotHeld_init) = some (.type "function"))
    (l_NotHeld_init : K.lookup f_NotHeld_init = some ⟨oc_NotHeld_init, od_NotHeld_init, .func (PySem.W.fnOf "__init__" "NotHeld.__init__" (defArgs s_NotHeld_init) (defBody s_NotHeld_init) (defScope s_NotHeld_init) .none kV_NotHeld_init dc_NotHeld_init pm_NotHeld_init an_NotHeld_init cd_NotHeld_init ct_NotHeld_init), sl_NotHeld_init⟩)
    (c_NotHeld_init : PySem.W.codeIn K cd_NotHeld_init "NotHeld.__init__" = true) (k_NotHeld_init : PySem.W.keepIn K (.ref f_NotHeld_init) = true)
    {f_TooMany_init : Addr} {od_TooMany_init an_TooMany_init : Option Addr} {sl_TooMany_init : Array (Option Value)} {oc_TooMany_init kV_TooMany_init dc_TooMany_init pm_TooMany_init cd_TooMany_init ct_TooMany_init : Value}
    (a_TooMany_init : PySem.W.findIn K (.ref C9) "__init__" = some (some (.ref f_TooMany_init))) (t_TooMany_init : PySem.W.typeIn K (.ref f_TooMany_init) = some (.type "function"))
    (l_TooMany_init : K.lookup f_TooMany_init = some ⟨oc_TooMany_init, od_TooMany_init, .func (PySem.W.fnOf "__init__" "TooMany.__init__" (defArgs s_TooMany_init) (defBody s_TooMany_init) (defScope s_TooMany_init) .none kV_TooMany_init dc_TooMany_init pm_TooMany_init an_TooMany_init cd_TooMany_init ct_TooMany_init), sl_TooMany_init⟩)
    (c_TooMany_init : PySem.W.codeIn K cd_TooMany_init "TooMany.__init__" = true) (k_TooMany_init : PySem.W.keepIn K (.ref f_TooMany_init) = true)
    (b_10 : PySem.W.findIn K (.ref C10) "__init__" = some (some (.builtin "Exception.__init__")))
    (b_11 : PySem.W.findIn K (.ref C11) "__init__" = some (some (.builtin "Exception.__init__")))
    (b_12 : PySem.W.findIn K (.ref C12) "__init__" = some (some (.builtin "Exception.__init__")))
    {f_law_feed : Addr} {od_law_feed an_law_feed : Option Addr} {sl_law_feed : Array (Option Value)} {oc_law_feed kV_law_feed dc_law_feed pm_law_feed cd_law_feed ct_law_feed : Value}
    (a_law_feed : PySem.W.nsIn K mainGlobals "_law_feed" = some (some (.ref f_law_feed)))
    (l_law_feed : K.lookup f_law_feed = some ⟨oc_law_feed, od_law_feed, .func (PySem.W.fnOf "_law_feed" "_law_feed" (defArgs s_law_feed) (defBody s_law_feed) (defScope s_law_feed) .none kV_law_feed dc_law_feed pm_law_feed an_law_feed cd_law_feed ct_law_feed), sl_law_feed⟩)
    (c_law_feed : PySem.W.codeIn K cd_law_feed "_law_feed" = true) (k_law_feed : PySem.W.keepIn K (.ref f_law_feed) = true)
    {f_law_take : Addr} {od_law_take an_law_take : Option Addr} {sl_law_take : Array (Option Value)} {oc_law_take kV_law_take dc_law_take pm_law_take cd_law_take ct_law_take : Value}
    (a_law_take : PySem.W.nsIn K mainGlobals "_law_take" = some (some (.ref f_law_take)))
    (l_law_take : K.lookup f_law_take = some ⟨oc_law_take, od_law_take, .func (PySem.W.fnOf "_law_take" "_law_take" (defArgs s_law_take) (defBody s_law_take) (defScope s_law_take) .none kV_law_take dc_law_take pm_law_take an_law_take cd_law_take ct_law_take), sl_law_take⟩)
    (c_law_take : PySem.W.codeIn K cd_law_take "_law_take" = true) (k_law_take : PySem.W.keepIn K (.ref f_law_take) = true)
    {f_law_one : Addr} {od_law_one an_law_one : Option Addr} {sl_law_one : Array (Option Value)} {oc_law_one kV_law_one dc_law_one pm_law_one cd_law_one ct_law_one : Value}
    (a_law_one : PySem.W.nsIn K mainGlobals "_law_one" = some (some (.ref f_law_one)))
    (l_law_one : K.lookup f_law_one = some ⟨oc_law_one, od_law_one, .func (PySem.W.fnOf "_law_one" "_law_one" (defArgs s_law_one) (defBody s_law_one) (defScope s_law_one) .none kV_law_one dc_law_one pm_law_one an_law_one cd_law_one ct_law_one), sl_law_one⟩)
    (c_law_one : PySem.W.codeIn K cd_law_one "_law_one" = true) (k_law_one : PySem.W.keepIn K (.ref f_law_one) = true)
    {f_law_thing : Addr} {od_law_thing an_law_thing : Option Addr} {sl_law_thing : Array (Option Value)} {oc_law_thing kV_law_thing dc_law_thing pm_law_thing cd_law_thing ct_law_thing : Value}
    (a_law_thing : PySem.W.nsIn K mainGlobals "_law_thing" = some (some (.ref f_law_thing)))
    (l_law_thing : K.lookup f_law_thing = some ⟨oc_law_thing, od_law_thing, .func (PySem.W.fnOf "_law_thing" "_law_thing" (defArgs s_law_thing) (defBody s_law_thing) (defScope s_law_thing) .none kV_law_thing dc_law_thing pm_law_thing an_law_thing cd_law_thing ct_law_thing), sl_law_thing⟩)
    (c_law_thing : PySem.W.codeIn K cd_law_thing "_law_thing" = true) (k_law_thing : PySem.W.keepIn K (.ref f_law_thing) = true)
    {f_law_kinds : Addr} {od_law_kinds an_law_kinds : Option Addr} {sl_law_kinds : Array (Option Value)} {oc_law_kinds kV_law_kinds dc_law_kinds pm_law_kinds cd_law_kinds ct_law_kinds : Value}
    (a_law_kinds : PySem.W.nsIn K mainGlobals "_law_kinds" = some (some (.ref f_law_kinds)))
    (l_law_kinds : K.lookup f_law_kinds = some ⟨oc_law_kinds, od_law_kinds, .func (PySem.W.fnOf "_law_kinds" "_law_kinds" (defArgs s_law_kinds) (defBody s_law_kinds) (defScope s_law_kinds) .none kV_law_kinds dc_law_kinds pm_law_kinds an_law_kinds cd_law_kinds ct_law_kinds), sl_law_kinds⟩)
    (c_law_kinds : PySem.W.codeIn K cd_law_kinds "_law_kinds" = true) (k_law_kinds : PySem.W.keepIn K (.ref f_law_kinds) = true)
    {f_law_due : Addr} {od_law_due an_law_due : Option Addr} {sl_law_due : Array (Option Value)} {oc_law_due kV_law_due dc_law_due pm_law_due cd_law_due ct_law_due : Value}
    (a_law_due : PySem.W.nsIn K mainGlobals "_law_due" = some (some (.ref f_law_due)))
    (l_law_due : K.lookup f_law_due = some ⟨oc_law_due, od_law_due, .func (PySem.W.fnOf "_law_due" "_law_due" (defArgs s_law_due) (defBody s_law_due) (defScope s_law_due) .none kV_law_due dc_law_due pm_law_due an_law_due cd_law_due ct_law_due), sl_law_due⟩)
    (c_law_due : PySem.W.codeIn K cd_law_due "_law_due" = true) (k_law_due : PySem.W.keepIn K (.ref f_law_due) = true)
    {f_law_made : Addr} {od_law_made an_law_made : Option Addr} {sl_law_made : Array (Option Value)} {oc_law_made kV_law_made dc_law_made pm_law_made cd_law_made ct_law_made : Value}
    (a_law_made : PySem.W.nsIn K mainGlobals "_law_made" = some (some (.ref f_law_made)))
    (l_law_made : K.lookup f_law_made = some ⟨oc_law_made, od_law_made, .func (PySem.W.fnOf "_law_made" "_law_made" (defArgs s_law_made) (defBody s_law_made) (defScope s_law_made) .none kV_law_made dc_law_made pm_law_made an_law_made cd_law_made ct_law_made), sl_law_made⟩)
    (c_law_made : PySem.W.codeIn K cd_law_made "_law_made" = true) (k_law_made : PySem.W.keepIn K (.ref f_law_made) = true)
    {f_law_by_name : Addr} {od_law_by_name an_law_by_name : Option Addr} {sl_law_by_name : Array (Option Value)} {oc_law_by_name kV_law_by_name dc_law_by_name pm_law_by_name cd_law_by_name ct_law_by_name : Value}
    (a_law_by_name : PySem.W.nsIn K mainGlobals "_law_by_name" = some (some (.ref f_law_by_name)))
    (l_law_by_name : K.lookup f_law_by_name = some ⟨oc_law_by_name, od_law_by_name, .func (PySem.W.fnOf "_law_by_name" "_law_by_name" (defArgs s_law_by_name) (defBody s_law_by_name) (defScope s_law_by_name) .none kV_law_by_name dc_law_by_name pm_law_by_name an_law_by_name cd_law_by_name ct_law_by_name), sl_law_by_name⟩)
    (c_law_by_name : PySem.W.codeIn K cd_law_by_name "_law_by_name" = true) (k_law_by_name : PySem.W.keepIn K (.ref f_law_by_name) = true)
    {f_law_raised : Addr} {od_law_raised an_law_raised : Option Addr} {sl_law_raised : Array (Option Value)} {oc_law_raised kV_law_raised dc_law_raised pm_law_raised cd_law_raised ct_law_raised : Value}
    (a_law_raised : PySem.W.nsIn K mainGlobals "_law_raised" = some (some (.ref f_law_raised)))
    (l_law_raised : K.lookup f_law_raised = some ⟨oc_law_raised, od_law_raised, .func (PySem.W.fnOf "_law_raised" "_law_raised" (defArgs s_law_raised) (defBody s_law_raised) (defScope s_law_raised) .none kV_law_raised dc_law_raised pm_law_raised an_law_raised cd_law_raised ct_law_raised), sl_law_raised⟩)
    (c_law_raised : PySem.W.codeIn K cd_law_raised "_law_raised" = true) (k_law_raised : PySem.W.keepIn K (.ref f_law_raised) = true)
    {f_law_right : Addr} {od_law_right an_law_right : Option Addr} {sl_law_right : Array (Option Value)} {oc_law_right kV_law_right dc_law_right pm_law_right cd_law_right ct_law_right : Value}
    (a_law_right : PySem.W.nsIn K mainGlobals "_law_right" = some (some (.ref f_law_right)))
    (l_law_right : K.lookup f_law_right = some ⟨oc_law_right, od_law_right, .func (PySem.W.fnOf "_law_right" "_law_right" (defArgs s_law_right) (defBody s_law_right) (defScope s_law_right) .none kV_law_right dc_law_right pm_law_right an_law_right cd_law_right ct_law_right), sl_law_right⟩)
    (c_law_right : PySem.W.codeIn K cd_law_right "_law_right" = true) (k_law_right : PySem.W.keepIn K (.ref f_law_right) = true)
    {f_law : Addr} {od_law an_law : Option Addr} {sl_law : Array (Option Value)} {oc_law kV_law dc_law pm_law cd_law ct_law : Value}
    (a_law : PySem.W.nsIn K mainGlobals "law" = some (some (.ref f_law)))
    (l_law : K.lookup f_law = some ⟨oc_law, od_law, .func (PySem.W.fnOf "law" "law" (defArgs s_law) (defBody s_law) (defScope s_law) .none kV_law dc_law pm_law an_law cd_law ct_law), sl_law⟩)
    (c_law : PySem.W.codeIn K cd_law "law" = true) (k_law : PySem.W.keepIn K (.ref f_law) = true)
    (z_Exception : PySem.W.nsIn K mainGlobals "Exception" = some none)
    (z_isinstance : PySem.W.nsIn K mainGlobals "isinstance" = some none)
    (z_len : PySem.W.nsIn K mainGlobals "len" = some none)
    (z_list : PySem.W.nsIn K mainGlobals "list" = some none)
    (z_range : PySem.W.nsIn K mainGlobals "range" = some none)
    (z_repr : PySem.W.nsIn K mainGlobals "repr" = some none)
    (z_tuple : PySem.W.nsIn K mainGlobals "tuple" = some none)
    : ∃ fd : FuncData, (∀ (s : Shared) (v : Value), BindsTo s fd ⟨[v], []⟩ [("_law_script", v)]) ∧
      ∀ base : Heap, K.In base → base.Ns mainGlobals mg → FnG l.prog w K mg base CX0 7 fa fd ["_law_script"] (sp_law K) := by
  have e := hfa.symm.trans (PySem.W.mg_of X G a_law)
  cases e
  have z_Exception := PySem.W.mg_none_of X G z_Exception
  have z_isinstance := PySem.W.mg_none_of X G z_isinstance
  have z_len := PySem.W.mg_none_of X G z_len
  have z_list := PySem.W.mg_none_of X G z_list
  have z_range := PySem.W.mg_none_of X G z_range
  have z_repr := PySem.W.mg_none_of X G z_repr
  have z_tuple := PySem.W.mg_none_of X G z_tuple
  have F_NoStore_init := fun_mk (st := s_NoStore_init) l_NoStore_init c_NoStore_init k_NoStore_init
  have F_Ring_init := fun_mk (st := s_Ring_init) l_Ring_init c_Ring_init k_Ring_init
  have F_NoLot_init := fun_mk (st := s_NoLot_init) l_NoLot_init c_NoLot_init k_NoLot_init
  have F_NoEdit_init := fun_mk (st := s_NoEdit_init) l_NoEdit_init c_NoEdit_init k_NoEdit_init
  have F_Noticed_init := fun_mk (st := s_Noticed_init) l_Noticed_init c_Noticed_init k_Noticed_init
  have F_NoContext_init := fun_mk (st := s_NoContext_init) l_NoContext_init c_NoContext_init k_NoContext_init
  have F_NoModule_init := fun_mk (st := s_NoModule_init) l_NoModule_init c_NoModule_init k_NoModule_init
  have F_NoWrite_init := fun_mk (st := s_NoWrite_init) l_NoWrite_init c_NoWrite_init k_NoWrite_init
  have F_NotHeld_init := fun_mk (st := s_NotHeld_init) l_NotHeld_init c_NotHeld_init k_NotHeld_init
  have F_TooMany_init := fun_mk (st := s_TooMany_init) l_TooMany_init c_TooMany_init k_TooMany_init
  have F_law_feed := fun_mk (st := s_law_feed) l_law_feed c_law_feed k_law_feed
  have F_law_take := fun_mk (st := s_law_take) l_law_take c_law_take k_law_take
  have F_law_one := fun_mk (st := s_law_one) l_law_one c_law_one k_law_one
  have F_law_thing := fun_mk (st := s_law_thing) l_law_thing c_law_thing k_law_thing
  have F_law_kinds := fun_mk (st := s_law_kinds) l_law_kinds c_law_kinds k_law_kinds
  have F_law_due := fun_mk (st := s_law_due) l_law_due c_law_due k_law_due
  have F_law_made := fun_mk (st := s_law_made) l_law_made c_law_made k_law_made
  have F_law_by_name := fun_mk (st := s_law_by_name) l_law_by_name c_law_by_name k_law_by_name
  have F_law_raised := fun_mk (st := s_law_raised) l_law_raised c_law_raised k_law_raised
  have F_law_right := fun_mk (st := s_law_right) l_law_right c_law_right k_law_right
  have F_law := fun_mk (st := s_law) l_law c_law k_law
  obtain ⟨ex, kit, kitE, exm, nof⟩ := all_of big
  refine ⟨PySem.W.fnOf "law" "law" (defArgs s_law) (defBody s_law) (defScope s_law) .none kV_law dc_law pm_law an_law cd_law ct_law, fun s v => .of_eq rfl, fun base _ _ => ?_⟩
  let Cs : Nat → Addr := nth [C0, C1, C2, C3, C4, C5, C6, C7, C8, C9, C10, C11, C12, C13]
  have O_0 : Own l.prog w K mg base 1 "NoStore" (Cs 0) ["word"] (spIni (Cs 0) fun v => [("word", v)]) := own_mk (ex 0 (by decide)).1 (PySem.W.mg_of X G n_0) a_NoStore_init t_NoStore_init F_NoStore_init (ok_NoStore_init F_NoStore_init (ex 0 (by decide)).1 (nof 0 (by decide) "word" (by decide +kernel))) (fun _ _ _ _ _ _ _ us hl => match us, hl with | [_], _ => rfl) (fun _ _ _ _ _ _ _ us hl => match us, hl with | [_], _ => rfl)
  have O_1 : Own l.prog w K mg base 1 "Ring" (Cs 1) ["names"] (spIni (Cs 1) fun v => [("names", v), ("word", .str "ring")]) := own_mk (ex 1 (by decide)).1 (PySem.W.mg_of X G n_1) a_Ring_init t_Ring_init F_Ring_init (ok_Ring_init F_Ring_init (ex 1 (by decide)).1 (nof 1 (by decide) "word" (by decide +kernel)) (nof 1 (by decide) "names" (by decide +kernel))) (fun _ _ _ _ _ _ _ us hl => match us, hl with | [_], _ => rfl) (fun _ _ _ _ _ _ _ us hl => match us, hl with | [_], _ => rfl)
  have O_2 : Own l.prog w K mg base 1 "NoLot" (Cs 2) ["names"] (spIni (Cs 2) fun v => [("names", v)]) := own_mk (ex 2 (by decide)).1 (PySem.W.mg_of X G n_2) a_NoLot_init t_NoLot_init F_NoLot_init (ok_NoLot_init F_NoLot_init (ex 2 (by decide)).1 (nof 2 (by decide) "names" (by decide +kernel))) (fun _ _ _ _ _ _ _ us hl => match us, hl with | [_], _ => rfl) (fun _ _ _ _ _ _ _ us hl => match us, hl with | [_], _ => rfl)
  have O_3 : Own l.prog w K mg base 1 "NoEdit" (Cs 3) ["word"] (spIni (Cs 3) fun v => [("word", v)]) := own_mk (ex 3 (by decide)).1 (PySem.W.mg_of X G n_3) a_NoEdit_init t_NoEdit_init F_NoEdit_init (ok_NoEdit_init F_NoEdit_init (ex 3 (by decide)).1 (nof 3 (by decide) "word" (by decide +kernel))) (fun _ _ _ _ _ _ _ us hl => match us, hl with | [_], _ => rfl) (fun _ _ _ _ _ _ _ us hl => match us, hl with | [_], _ => rfl)
  have O_4 : Own l.prog w K mg base 1 "Noticed" (Cs 4) ["stranger"] (spIni (Cs 4) fun v => [("stranger", v), ("word", .str "noticed")]) := own_mk (ex 4 (by decide)).1 (PySem.W.mg_of X G n_4) a_Noticed_init t_Noticed_init F_Noticed_init (ok_Noticed_init F_Noticed_init (ex 4 (by decide)).1 (nof 4 (by decide) "word" (by decide +kernel)) (nof 4 (by decide) "stranger" (by decide +kernel))) (fun _ _ _ _ _ _ _ us hl => match us, hl with | [_], _ => rfl) (fun _ _ _ _ _ _ _ us hl => match us, hl with | [_], _ => rfl)
  have O_5 : Own l.prog w K mg base 1 "NoContext" (Cs 5) ["word"] (spIni (Cs 5) fun v => [("word", v)]) := own_mk (ex 5 (by decide)).1 (PySem.W.mg_of X G n_5) a_NoContext_init t_NoContext_init F_NoContext_init (ok_NoContext_init F_NoContext_init (ex 5 (by decide)).1 (nof 5 (by decide) "word" (by decide +kernel))) (fun _ _ _ _ _ _ _ us hl => match us, hl with | [_], _ => rfl) (fun _ _ _ _ _ _ _ us hl => match us, hl with | [_], _ => rfl)
  have O_6 : Own l.prog w K mg base 1 "NoModule" (Cs 6) ["part"] (spIni (Cs 6) fun v => [("part", v)]) := own_mk (ex 6 (by decide)).1 (PySem.W.mg_of X G n_6) a_NoModule_init t_NoModule_init F_NoModule_init (ok_NoModule_init F_NoModule_init (ex 6 (by decide)).1 (nof 6 (by decide) "part" (by decide +kernel))) (fun _ _ _ _ _ _ _ us hl => match us, hl with | [_], _ => rfl) (fun _ _ _ _ _ _ _ us hl => match us, hl with | [_], _ => rfl)
  have O_7 : Own l.prog w K mg base 1 "NoWrite" (Cs 7) ["names"] (spIni (Cs 7) fun v => [("names", v)]) := own_mk (ex 7 (by decide)).1 (PySem.W.mg_of X G n_7) a_NoWrite_init t_NoWrite_init F_NoWrite_init (ok_NoWrite_init F_NoWrite_init (ex 7 (by decide)).1 (nof 7 (by decide) "names" (by decide +kernel))) (fun _ _ _ _ _ _ _ us hl => match us, hl with | [_], _ => rfl) (fun _ _ _ _ _ _ _ us hl => match us, hl with | [_], _ => rfl)
  have O_8 : Own l.prog w K mg base 1 "NotHeld" (Cs 8) ["handle"] (spIni (Cs 8) fun v => [("handle", v)]) := own_mk (ex 8 (by decide)).1 (PySem.W.mg_of X G n_8) a_NotHeld_init t_NotHeld_init F_NotHeld_init (ok_NotHeld_init F_NotHeld_init (ex 8 (by decide)).1 (nof 8 (by decide) "handle" (by decide +kernel))) (fun _ _ _ _ _ _ _ us hl => match us, hl with | [_], _ => rfl) (fun _ _ _ _ _ _ _ us hl => match us, hl with | [_], _ => rfl)
  have O_9 : Own l.prog w K mg base 1 "TooMany" (Cs 9) ["limit"] (spIni (Cs 9) fun v => [("limit", v)]) := own_mk (ex 9 (by decide)).1 (PySem.W.mg_of X G n_9) a_TooMany_init t_TooMany_init F_TooMany_init (ok_TooMany_init F_TooMany_init (ex 9 (by decide)).1 (nof 9 (by decide) "limit" (by decide +kernel))) (fun _ _ _ _ _ _ _ us hl => match us, hl with | [_], _ => rfl) (fun _ _ _ _ _ _ _ us hl => match us, hl with | [_], _ => rfl)
  have O_10 : Own0 K mg "InvalidText" (Cs 10) := ⟨(ex 10 (by decide)).1, PySem.W.mg_of X G n_10, b_10⟩
  have O_11 : Own0 K mg "InvalidCommand" (Cs 11) := ⟨(ex 11 (by decide)).1, PySem.W.mg_of X G n_11, b_11⟩
  have O_12 : Own0 K mg "NothingDone" (Cs 12) := ⟨(ex 12 (by decide)).1, PySem.W.mg_of X G n_12, b_12⟩
  have ER : Errs l.prog w K mg base Cs := ⟨O_0, O_1, O_2, O_3, O_4, O_5, O_6, O_7, O_8, O_9, O_10, O_11, O_12, ⟨PySem.W.mg_of X G n_13⟩, ⟨gt, tk⟩, fun i hi => (ex i hi).2, kit, kitE, exm, nof⟩
  have D_law_feed : Has l.prog w K mg base 1 "_law_feed" ["_law_script"] (sp_feed K) := has F_law_feed (PySem.W.mg_of X G a_law_feed) (ok_law_feed F_law_feed z_list) (fun _ _ _ _ _ _ us hl => match us, hl with | [_], _ => rfl) (fun _ _ _ _ _ _ us hl => match us, hl with | [_], _ => rfl)
  have D_law_take : Has l.prog w K mg base 1 "_law_take" ["_law_feed_here", "_law_many"] sp_take := has F_law_take (PySem.W.mg_of X G a_law_take) (ok_law_take F_law_take ) (fun _ _ _ _ _ _ us hl => match us, hl with | [_, _], _ => rfl) (fun _ _ _ _ _ _ us hl => match us, hl with | [_, _], _ => rfl)
  have D_law_one : Has l.prog w K mg base 2 "_law_one" ["_law_feed_here", "_law_some"] sp_one := has F_law_one (PySem.W.mg_of X G a_law_one) (ok_law_one F_law_one z_len D_law_take) (fun _ _ _ _ _ _ us hl => match us, hl with | [_, _], _ => rfl) (fun _ _ _ _ _ _ us hl => match us, hl with | [_, _], _ => rfl)
  have L_0 : Has l.prog w K mg base 2 "_law_thing" ["_law_feed_here", "_law_deep"] (sp_less K 0) := has F_law_thing (PySem.W.mg_of X G a_law_thing) less_none (fun _ _ _ _ _ _ us hl => match us, hl with | [_, _], _ => rfl) (fun _ _ _ _ _ _ us hl => match us, hl with | [_, _], _ => rfl)
  have L_1 : Has l.prog w K mg base 3 "_law_thing" ["_law_feed_here", "_law_deep"] (sp_less K 1) := has F_law_thing (PySem.W.mg_of X G a_law_thing) (less_of (ok_law_thing 0 (by decide) F_law_thing z_tuple z_range D_law_take D_law_one L_0)) (fun _ _ _ _ _ _ us hl => match us, hl with | [_, _], _ => rfl) (fun _ _ _ _ _ _ us hl => match us, hl with | [_, _], _ => rfl)
  have L_2 : Has l.prog w K mg base 4 "_law_thing" ["_law_feed_here", "_law_deep"] (sp_less K 2) := has F_law_thing (PySem.W.mg_of X G a_law_thing) (less_of (ok_law_thing 1 (by decide) F_law_thing z_tuple z_range D_law_take D_law_one L_1)) (fun _ _ _ _ _ _ us hl => match us, hl with | [_, _], _ => rfl) (fun _ _ _ _ _ _ us hl => match us, hl with | [_, _], _ => rfl)
  have L_3 : Has l.prog w K mg base 5 "_law_thing" ["_law_feed_here", "_law_deep"] (sp_less K 3) := has F_law_thing (PySem.W.mg_of X G a_law_thing) (less_of (ok_law_thing 2 (by decide) F_law_thing z_tuple z_range D_law_take D_law_one L_2)) (fun _ _ _ _ _ _ us hl => match us, hl with | [_, _], _ => rfl) (fun _ _ _ _ _ _ us hl => match us, hl with | [_, _], _ => rfl)
  have D_law_thing : Has l.prog w K mg base 6 "_law_thing" ["_law_feed_here", "_law_deep"] (sp_thing K 3) := has F_law_thing (PySem.W.mg_of X G a_law_thing) (ok_law_thing 3 (by decide) F_law_thing z_tuple z_range D_law_take D_law_one L_3) (fun _ _ _ _ _ _ us hl => match us, hl with | [_, _], _ => rfl) (fun _ _ _ _ _ _ us hl => match us, hl with | [_, _], _ => rfl)
  have D_law_kinds : Has l.prog w K mg base 1 "_law_kinds" ["_law_e"] (sp_kinds Cs) := has F_law_kinds (PySem.W.mg_of X G a_law_kinds) (ok_law_kinds F_law_kinds z_isinstance z_Exception ER) (fun _ _ _ _ _ _ us hl => match us, hl with | [_], _ => rfl) (fun _ _ _ _ _ _ us hl => match us, hl with | [_], _ => rfl)
  have D_law_due : Has l.prog w K mg base 1 "_law_due" ["_law_which"] sp_due := has F_law_due (PySem.W.mg_of X G a_law_due) (ok_law_due F_law_due z_range) (fun _ _ _ _ _ _ us hl => match us, hl with | [_], _ => rfl) (fun _ _ _ _ _ _ us hl => match us, hl with | [_], _ => rfl)
  have D_law_made : Has l.prog w K mg base 3 "_law_made" ["_law_which", "_law_thing_here"] (sp_made Cs) := has F_law_made (PySem.W.mg_of X G a_law_made) (ok_law_made F_law_made ER) (fun _ _ _ _ _ _ us hl => match us, hl with | [_, _], _ => rfl) (fun _ _ _ _ _ _ us hl => match us, hl with | [_, _], _ => rfl)
  have D_law_by_name : Has l.prog w K mg base 3 "_law_by_name" ["_law_thing_here"] sp_by := has F_law_by_name (PySem.W.mg_of X G a_law_by_name) (ok_law_by_name F_law_by_name ER) (fun _ _ _ _ _ _ us hl => match us, hl with | [_], _ => rfl) (fun _ _ _ _ _ _ us hl => match us, hl with | [_], _ => rfl)
  have D_law_raised : Has l.prog w K mg base 3 "_law_raised" ["_law_which", "_law_thing_here"] (sp_raised Cs) := has F_law_raised (PySem.W.mg_of X G a_law_raised) (ok_law_raised F_law_raised ER (okP_law_kinds F_law_kinds z_isinstance z_Exception ER) (PySem.W.mg_of X G a_law_kinds) F_law_kinds.kp (F_law_kinds.binds (fun _ _ _ _ _ _ us hl => match us, hl with | [_], _ => rfl))) (fun _ _ _ _ _ _ us hl => match us, hl with | [_, _], _ => rfl) (fun _ _ _ _ _ _ us hl => match us, hl with | [_, _], _ => rfl)
  have D_law_right : Has l.prog w K mg base 4 "_law_right" ["_law_which", "_law_thing_here"] (sp_right K) := has F_law_right (PySem.W.mg_of X G a_law_right) (ok_law_right F_law_right z_repr D_law_made D_law_kinds D_law_due D_law_raised) (fun _ _ _ _ _ _ us hl => match us, hl with | [_, _], _ => rfl) (fun _ _ _ _ _ _ us hl => match us, hl with | [_, _], _ => rfl)
  exact ok_law F_law z_range z_repr D_law_feed D_law_thing D_law_right D_law_by_name
end C01
open PySem PySem.W PyProof.Rows
set_option maxRecDepth 100000 in
set_option maxHeartbeats 0 in
theorem PySem.Challenge.cw_heldparts_k01_error_classes_holds : PySem.Challenge.rw_heldparts_k01_error_classes.Holds := by
  w_on; o_law; k_head; (case hw => w_witness2)
  k_fill
  refine Lay.walkG (l := PySem.Challenge.rw_heldparts_k01_error_classes) (n := 63) (k := 7) (x := "_law_script") (spl := C01.sp_law) rfl (by decide) rfl ⟨rfl, by decide, by decide⟩ (fun w h Y => PySem.W.kIn_of Y) ?F (fun K H a ns hl _ hS => ⟨a, ns, rfl, hS, hl, fun _ => rfl⟩)
  case F =>
    intro w mg fa h KX G hmg
    refine' C01.all_mk KX G hmg ?n_0 ?n_1 ?n_2 ?n_3 ?n_4 ?n_5 ?n_6 ?n_7 ?n_8 ?n_9 ?n_10 ?n_11 ?n_12 ?n_13 ?big ?gt ?tk ?a_NoStore_init ?t_NoStore_init ?l_NoStore_init ?c_NoStore_init ?k_NoStore_init ?a_Ring_init ?t_Ring_init ?l_Ring_init ?c_Ring_init ?k_Ring_init ?a_NoLot_init ?t_NoLot_init ?l_NoLot_init ?c_NoLot_init ?k_NoLot_init ?a_NoEdit_init ?t_NoEdit_init ?l_NoEdit_init ?c_NoEdit_init ?k_NoEdit_init ?a_Noticed_init ?t_Noticed_init ?l_Noticed_init ?c_Noticed_init ?k_Noticed_init ?a_NoContext_init ?t_NoContext_init ?l_NoContext_init ?c_NoContext_init ?k_NoContext_init ?a_NoModule_init ?t_NoModule_init ?l_NoModule_init ?c_NoModule_init ?k_NoModule_init ?a_NoWrite_init ?t_NoWrite_init ?l_NoWrite_init ?c_NoWrite_init ?k_NoWrite_init ?a_NotHeld_init ?t_NotHeld_init ?l_NotHeld_init ?c_NotHeld_init ?k_NotHeld_init ?a_TooMany_init ?t_TooMany_init ?l_TooMany_init ?c_TooMany_init ?k_TooMany_init ?b_10 ?b_11 ?b_12 ?a_law_feed ?l_law_feed ?c_law_feed ?k_law_feed ?a_law_take ?l_law_take ?c_law_take ?k_law_take ?a_law_one ?l_law_one ?c_law_one ?k_law_one ?a_law_thing ?l_law_thing ?c_law_thing ?k_law_thing ?a_law_kinds ?l_law_kinds ?c_law_kinds ?k_law_kinds ?a_law_due ?l_law_due ?c_law_due ?k_law_due ?a_law_made ?l_law_made ?c_law_made ?k_law_made ?a_law_by_name ?l_law_by_name ?c_law_by_name ?k_law_by_name ?a_law_raised ?l_law_raised ?c_law_raised ?k_law_raised ?a_law_right ?l_law_right ?c_law_right ?k_law_right ?a_law ?l_law ?c_law ?k_law ?z_Exception ?z_isinstance ?z_len ?z_list ?z_range ?z_repr ?z_tuple
    (case n_0 => k_is); (case n_1 => k_is); (case n_2 => k_is); (case n_3 => k_is); (case n_4 => k_is); (case n_5 => k_is); (case n_6 => k_is); (case n_7 => k_is); (case n_8 => k_is); (case n_9 => k_is); (case n_10 => k_is); (case n_11 => k_is); (case n_12 => k_is); (case n_13 => k_is)
    (case gt => k_is); (case tk => k_is)
    (case a_NoStore_init => k_is); (case t_NoStore_init => k_is); (case l_NoStore_init => k_is); (case c_NoStore_init => k_is); (case k_NoStore_init => k_is); (case a_Ring_init => k_is); (case t_Ring_init => k_is); (case l_Ring_init => k_is); (case c_Ring_init => k_is); (case k_Ring_init => k_is); (case a_NoLot_init => k_is); (case t_NoLot_init => k_is); (case l_NoLot_init => k_is); (case c_NoLot_init => k_is); (case k_NoLot_init => k_is); (case a_NoEdit_init => k_is); (case t_NoEdit_init => k_is); (case l_NoEdit_init => k_is); (case c_NoEdit_init => k_is); (case k_NoEdit_init => k_is); (case a_Noticed_init => k_is); (case t_Noticed_init => k_is); (case l_Noticed_init => k_is); (case c_Noticed_init => k_is); (case k_Noticed_init => k_is); (case a_NoContext_init => k_is); (case t_NoContext_init => k_is); (case l_NoContext_init => k_is); (case c_NoContext_init => k_is); (case k_NoContext_init => k_is); (case a_NoModule_init => k_is); (case t_NoModule_init => k_is); (case l_NoModule_init => k_is); (case c_NoModule_init => k_is); (case k_NoModule_init => k_is); (case a_NoWrite_init => k_is); (case t_NoWrite_init => k_is); (case l_NoWrite_init => k_is); (case c_NoWrite_init => k_is); (case k_NoWrite_init => k_is); (case a_NotHeld_init => k_is); (case t_NotHeld_init => k_is); (case l_NotHeld_init => k_is); (case c_NotHeld_init => k_is); (case k_NotHeld_init => k_is); (case a_TooMany_init => k_is); (case t_TooMany_init => k_is); (case l_TooMany_init => k_is); (case c_TooMany_init => k_is); (case k_TooMany_init => k_is); (case b_10 => k_is); (case b_11 => k_is); (case b_12 => k_is); (case a_law_feed => k_is); (case l_law_feed => k_is); (case c_law_feed => k_is); (case k_law_feed => k_is); (case a_law_take => k_is); (case l_law_take => k_is); (case c_law_take => k_is); (case k_law_take => k_is); (case a_law_one => k_is); (case l_law_one => k_is); (case c_law_one => k_is); (case k_law_one => k_is); (case a_law_thing => k_is); (case l_law_thing => k_is); (case c_law_thing => k_is); (case k_law_thing => k_is); (case a_law_kinds => k_is); (case l_law_kinds => k_is); (case c_law_kinds => k_is); (case k_law_kinds => k_is); (case a_law_due => k_is); (case l_law_due => k_is); (case c_law_due => k_is); (case k_law_due => k_is); (case a_law_made => k_is); (case l_law_made => k_is); (case c_law_made => k_is); (case k_law_made => k_is); (case a_law_by_name => k_is); (case l_law_by_name => k_is); (case c_law_by_name => k_is); (case k_law_by_name => k_is); (case a_law_raised => k_is); (case l_law_raised => k_is); (case c_law_raised => k_is); (case k_law_raised => k_is); (case a_law_right => k_is); (case l_law_right => k_is); (case c_law_right => k_is); (case k_law_right => k_is); (case a_law => k_is); (case l_law => k_is); (case c_law => k_is); (case k_law => k_is); (case z_Exception => k_is); (case z_isinstance => k_is); (case z_len => k_is); (case z_list => k_is); (case z_range => k_is); (case z_repr => k_is); (case z_tuple => k_is)
    (case big => kernel_rfl)
